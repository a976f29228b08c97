/-
  THE WALK OF NameOrder. By an AI agent; no person has read it.
-/
import Derived.Test.YtgnfnbmdjbmcfaaCalls
namespace Go.Proofs.Ytgnfnbmdjbmcfaa
open Go.RowKit Txt

theorem less_call (a b : ByteArray) (v : Bool) (h : Op.bytesLess a.data.toList b.data.toList = v) (w : World) : Calls Try.prog 24 #[.string a, .string b] w fun e w' => e = .returned (.bool v) ∧ w = w' := by
  have := less_any a b w
  rw [h] at this
  exact this
set_option maxHeartbeats 2000000 in
set_option maxRecDepth 100000 in
theorem order_walk (s t u : ByteArray) (w : World) (hs : s.size ≤ 140737488351232) (ht : t.size ≤ 140737488351232) (hu : u.size ≤ 140737488351232) :
    Calls Try.prog 9 #[.string s, .string t, .string u] w fun e w' => e = .returned (.bool true) ∧ Below w.heap.size w w' := by
  by_cases hl : (3000 : Int) < ↑s.size + ↑t.size + ↑u.size
  · go_enter Try.func9, Try.ntmps9
    go_wp2_with fail
    refine (shown_any _).mono ?_
    rintro e w1 ⟨rfl, b1⟩
    go_wp2_with fail
    go_ret
    exact ⟨rfl, b1⟩
  · have hl' : ↑s.size + ↑t.size + ↑u.size ≤ (3000 : Int) := by omega
    clear hl
    obtain ⟨a, ha⟩ : ∃ a, Op.bytesLess s.data.toList t.data.toList = a := ⟨_, rfl⟩
    obtain ⟨b, hb⟩ : ∃ b, Op.bytesLess t.data.toList s.data.toList = b := ⟨_, rfl⟩
    obtain ⟨c, hc⟩ : ∃ c, Op.bytesLess t.data.toList u.data.toList = c := ⟨_, rfl⟩
    obtain ⟨d, hd⟩ : ∃ d, Op.bytesLess s.data.toList u.data.toList = d := ⟨_, rfl⟩
    have k1 : a = true → b = true → False := fun e1 e2 => by
      have := less_asymm _ _ (ha.trans e1)
      rw [hb, e2] at this; cases this
    have k2 : a = true → c = true → d = true := fun e1 e2 => by
      rw [← hd]; exact less_trans _ _ _ (ha.trans e1) (hc.trans e2)
    have k3 : a = false → b = false → s.data.toList = t.data.toList := fun e1 e2 => less_total _ _ (ha.trans e1) (hb.trans e2)
    have k4 : a = true ∨ b = true → s.data.toList ≠ t.data.toList := by
      intro h e
      rw [e] at ha hb
      rw [less_irrefl] at ha hb
      rcases h with h | h
      · rw [h] at ha; cases ha
      · rw [h] at hb; cases hb
    have HA := Lib.hid ha; have HB := Lib.hid hb; have HC := Lib.hid hc; have HD := Lib.hid hd
    clear ha hb hc hd
    have m1 := less_more s.data.toList 97 []
    have HM := Lib.hid m1
    clear m1
    go_enter Try.func9, Try.ntmps9
    go_wp2_with fail
    refine (shown_any _).mono ?_
    rintro e w1 ⟨rfl, b1⟩
    go_wp2_with fail
    refine (less_call s t a HA.out _).mono ?_
    rintro e w2 ⟨rfl, rfl⟩
    go_wp2_with fail
    refine (less_call t s b HB.out _).mono ?_
    rintro e w2 ⟨rfl, rfl⟩
    have HN := Lib.hid (less_irrefl s.data.toList)
    have hs3 : s.size ≤ 3000 := by omega
    cases a <;> cases b <;> cases c <;> cases d
    all_goals try (exfalso; exact k1 rfl rfl)
    all_goals try (exfalso; exact absurd (k2 rfl rfl) (by decide))
    all_goals first
      | (have e1 := eq_bool (k3 rfl rfl))
      | (have e1 := ne_bool (k4 (.inl rfl)))
      | (have e1 := ne_bool (k4 (.inr rfl)))
    all_goals clear k1 k2 k3 k4
    all_goals go_wp2_with fail
    all_goals refine (less_call t u _ HC.out _).mono ?_
    all_goals rintro e w2 ⟨rfl, rfl⟩
    all_goals go_wp2_with fail
    all_goals refine (less_call s u _ HD.out _).mono ?_
    all_goals rintro e w2 ⟨rfl, rfl⟩
    all_goals go_wp2_with fail
    all_goals refine (less_call s s false HN.out _).mono ?_
    all_goals rintro e w2 ⟨rfl, rfl⟩
    all_goals go_wp2_with fail
    all_goals refine (less_call s _ true (by rw [app_data]; exact HM.out) _).mono ?_
    all_goals rintro e w2 ⟨rfl, rfl⟩
    all_goals go_wp2_with fail
    all_goals refine (less_call _ s false (by rw [app_data]; exact less_asymm _ _ HM.out) _).mono ?_
    all_goals rintro e w2 ⟨rfl, rfl⟩
    all_goals go_wp2_with fail
    all_goals go_ret
    all_goals exact ⟨rfl, b1⟩

end Go.Proofs.Ytgnfnbmdjbmcfaa
