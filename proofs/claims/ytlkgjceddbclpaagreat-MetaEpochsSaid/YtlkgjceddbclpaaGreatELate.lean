/-
  MLKnown, Late. By an AI agent.
-/
import Derived.Test.YtlkgjceddbclpaaGreatEZ
import Derived.Laws.AppendOwnNone
import Derived.Test.YtlkgjceddbclpaaGreatEMShown
import Derived.Test.YtlkgjceddbclpaaGreatEMKnown
import Derived.Deep.RegionHeld
import Derived.Still
import Derived.Below
namespace Go.Proofs.YtlkgjceddbclpaaGreat.Mta
open Go.RowKit Wire Term Rig Draw

set_option linter.unusedSimpArgs false
set_option linter.unusedVariables false
theorem knows_oth {k : List (Tm × Tm)} (h : Knows k) {r : Rt} (hr : Ann r) : ∀ s ∈ oth r, pub k s = (pubU s, 0) := fun s hs => h s (oth_wn hr s hs)
end Go.Proofs.YtlkgjceddbclpaaGreat.Mta

namespace Go.Proofs.YtlkgjceddbclpaaGreat.Late
open Go.RowKit
section
variable {P : Program} {ops : Array Oper} {Q : Exit → Act → World → Prop} {md : Region.Mode} {S : World → Prop} {k : Nat} {ok : Oper} {Z : Obj} {g0 : Nat}

theorem Le.alloc (w : World) (Z : Obj) : Below w.heap.size w (w.alloc Z) := (Below.refl _ _).alloc zl Z
theorem Le.trans {a b c : World} (h : Below a.heap.size a b) (h2 : Below b.heap.size b c) : Below a.heap.size a c := h.trans (h2.mono h.size)
def Late (P : Program) (md : Region.Mode) (ops : Array Oper) (Q : Exit → Act → World → Prop) (S : World → Prop) (k : Nat) (ok : Oper) (Z : Obj) (g0 : Nat) : Nat → Array Bool → Act → World → List (Nat × Nat) → Prop
  | 0, _, _, _, _ => False
  | fuel + 1, listed, a, w, iv =>
    (∃ i oi v, ops[i]? = some oi ∧ i ≠ k ∧ Region.free md ops listed i = true ∧ i ∈ Region.ready md ops listed ∧ ok.apart ops oi = true ∧ YieldsIf P ops S oi v a ∧ Late P md ops Q S k ok Z g0 fuel (listed.setIfInBounds i true) (a.put oi.dst v) w iv) ∨
    (∃ i oi, ops[i]? = some oi ∧ i ≠ k ∧ (∀ j ∈ Region.ready md ops listed, j = i ∨ j = k) ∧ Region.ready md ops (listed.setIfInBounds k true) = [i] ∧ 0 < fuel ∧ ok.apart ops oi = true ∧
      ∀ W, S W → Below w.heap.size w W → wpOp P ops Q i (fun a' w' => Below W.heap.size W w' ∧ Late P md ops Q S k ok Z g0 fuel (listed.setIfInBounds i true) a' w' ((W.heap.size, w'.heap.size) :: iv)) a W) ∨
    (Region.ready md ops listed = [k] ∧ ∀ W g, S W → Below w.heap.size w W → W.heap[g]? = some Z → g0 ≤ g → (∀ p ∈ iv, g < p.1 ∨ p.2 ≤ g) →
      wpAnyH P md ops Q S fuel (listed.setIfInBounds k true) (a.put ok.dst (.pointer (some ⟨g, 0, none⟩))) W)

theorem wpOp_late {j : Nat} {oj : Oper} {v : Value} (hj : ops[j]? = some oj) (hap : ok.apart ops oj = true) (hsj : ∀ cs b, oj.op ≠ .select cs b)
    (hQ : ∀ c (a : Act) d v w, Q (.panic c) (a.put d v) w ↔ Q (.panic c) a w) {K K' : Act → World → Prop} {a : Act} {w : World}
    (h : wpOp P ops Q j K a w) (hK : ∀ a' w', K a' w' → K' (a'.put ok.dst v) w') : wpOp P ops Q j K' (a.put ok.dst v) w := by
  obtain ⟨h1, h2, h3⟩ := Oper.apart_spec hap
  unfold wpOp at *
  simp only [hj] at *
  rw [wanted_put oj a ok.dst v h1]
  split
  · rename_i hw
    simp only [hw, if_true] at h
    rcases h with h | ⟨hasks, hlets⟩
    case inr => exact .inr ⟨by unfold Oper.asks at *; rw [execOp_put oj hsj a ok.dst v h1]; exact hasks, hlets⟩
    refine .inl ?_
    unfold Oper.wp at *
    rw [execOp_put oj hsj a ok.dst v h1]
    generalize (execOp a.eval oj).run P w = r at *
    cases r with
    | ok n w' =>
      cases n <;> simp only [Oper.upon] at h ⊢
      case value u => rw [Act.put_comm a v u h2]; exact hK _ _ h
      case skip => rw [Act.put_comm a v undef h2]; exact hK _ _ h
      case defer d =>
        have e : ({ a.put ok.dst v with defers := d :: (a.put ok.dst v).defers } : Act) = ({ a with defers := d :: a.defers } : Act).put ok.dst v := by cases ok.dst <;> rfl
        rw [e, Act.put_comm _ v undef h2]
        exact hK _ _ h
      case enter f args =>
        refine Calls.mono h fun e w'' he => ?_
        cases e with
        | returned u => show K' _ _; rw [Act.put_comm a v u h2]; exact hK _ _ he
        | panicked c => exact (hQ _ _ _ _ _).2 he
        | outgrown => exact he
      case row row args => exact Rows.mono h fun u w'' he => by rw [Act.put_comm a v u h2]; exact hK _ _ he
    | halt x w' =>
      cases x <;> simp only [Oper.upon] at h ⊢
      case panic u => exact (hQ _ _ _ _ _).2 h
  · rename_i hw
    simp only [hw] at h
    rw [Act.put_comm a v undef h2]
    exact hK _ _ h

theorem late_sound (hk : ops[k]? = some ok) (hg : ok.guard = none) (ha : ∀ (a : Act) w, (execOp a.eval ok).run P w = .ok (.value (.pointer (some ⟨w.heap.size, 0, none⟩))) (w.alloc Z))
    (hsel : ∀ (j : Nat) (o : Oper) cs b, ops[j]? = some o → o.op ≠ .select cs b) (hQ : ∀ c (a : Act) d v w, Q (.panic c) (a.put d v) w ↔ Q (.panic c) a w) (hS : ∀ W W', S W → Below W.heap.size W W' → S W') :
    ∀ (fuel : Nat) (listed : Array Bool) (a : Act) (w : World) (iv : List (Nat × Nat)), Late P md ops Q S k ok Z g0 fuel listed a w iv → k ∈ Region.ready md ops listed → (∀ p ∈ iv, p.2 ≤ w.heap.size) → g0 ≤ w.heap.size →
      (∀ W, S W → Below w.heap.size w W → wpAnyH P md ops Q S fuel listed a W) ∧
      (∀ f, fuel = f + 1 → ∀ W g, S W → Below w.heap.size w W → W.heap[g]? = some Z → g0 ≤ g → (∀ p ∈ iv, g < p.1 ∨ p.2 ≤ g) → wpAnyH P md ops Q S f (listed.setIfInBounds k true) (a.put ok.dst (.pointer (some ⟨g, 0, none⟩))) W) := by
  intro fuel
  induction fuel with
  | zero => intro listed a w iv h; exact h.elim
  | succ fuel ih =>
    intro listed a w iv h hr hiv hg0
    have hwk : ∀ a : Act, Region.wanted ok (yielded ops a.tmps) = true := fun a => by simp [Region.wanted, hg]
    -- the variable is laid here
    have lay : ∀ W, S W → Below w.heap.size w W → (∀ W' g, S W' → Below w.heap.size w W' → W'.heap[g]? = some Z → g0 ≤ g → (∀ p ∈ iv, g < p.1 ∨ p.2 ≤ g) → wpAnyH P md ops Q S fuel (listed.setIfInBounds k true) (a.put ok.dst (.pointer (some ⟨g, 0, none⟩))) W') →
        wpOp P ops Q k (fun a' w' => S w' ∧ wpAnyH P md ops Q S fuel (listed.setIfInBounds k true) a' w') a W := fun W hSW hW hA => by
      unfold wpOp
      simp only [hk, hwk a, if_true]
      refine .inl ?_
      unfold Oper.wp
      rw [ha a W]
      have hSW' := hS _ _ hSW (Le.alloc W Z)
      exact ⟨hSW', hA _ W.heap.size hSW' (Le.trans hW (Le.alloc W Z)) (by rw [heap_alloc_new]) (Nat.le_trans hg0 hW.size) fun p hp => .inr (Nat.le_trans (hiv p hp) hW.size)⟩
    rcases h with ⟨i, oi, v, hi, hik, hf, hir, hap, hy, hL⟩ | ⟨i, oi, hi, hik, hre, hre2, hpos, hap, hL⟩ | ⟨hre, hL⟩
    · have hfree := Region.free_spec hi hf
      have hrk : k ∈ Region.ready md ops (listed.setIfInBounds i true) := ready_mono hr (Ne.symm hik)
      obtain ⟨hB, hA⟩ := ih _ _ _ _ hL hrk hiv hg0
      refine ⟨fun W hSW hW => wpAnyH_first hi hsel (fun c a w h => (hQ c a oi.dst v w).1 h) fuel listed a W hfree hir hy hSW (hB W hSW hW), fun f hfu W g hSW hW hgZ hgg hav => ?_⟩
      obtain rfl : fuel = f := by omega
      cases fuel with
      | zero => exact hL.elim
      | succ f' =>
        have h2 := hA f' rfl W g hSW hW hgZ hgg hav
        obtain ⟨q1, q2, q3⟩ := Oper.apart_spec hap
        have hy' : YieldsIf P ops S oi v (a.put ok.dst (.pointer (some ⟨g, 0, none⟩))) := hy.of_same (execOp_put oi (fun cs b => hsel i oi cs b hi) a ok.dst _ q1) (wanted_put oi a ok.dst _ q1)
        refine wpAnyH_first hi hsel (fun c a w h => (hQ c a oi.dst v w).1 h) f' (listed.setIfInBounds k true) _ W (fun j oj hj hji hun hno => hfree j oj hj hji ?_ hno) (ready_mono hir hik) hy' hSW ?_
        · by_cases hjk : k = j
          · subst hjk; exact (mem_ready.1 hr).1
          · rw [getD_set_ne true hjk] at hun; exact hun
        · rw [Array.setIfInBounds_comm _ _ (Ne.symm hik), Act.put_comm a _ v q2]
          exact h2
    · have hrk : k ∈ Region.ready md ops (listed.setIfInBounds i true) := ready_mono hr (Ne.symm hik)
      have A : ∀ f, fuel = f → ∀ W g, S W → Below w.heap.size w W → W.heap[g]? = some Z → g0 ≤ g → (∀ p ∈ iv, g < p.1 ∨ p.2 ≤ g) → wpAnyH P md ops Q S f (listed.setIfInBounds k true) (a.put ok.dst (.pointer (some ⟨g, 0, none⟩))) W := fun f hfu W g hSW hW hgZ hgg hav => by
        subst hfu
        obtain ⟨f, rfl⟩ : ∃ f, fuel = f + 1 := ⟨fuel - 1, by omega⟩
        refine ⟨fun h => (by rw [hre2] at h; cases h), fun j hj => ?_⟩
        rw [hre2] at hj
        obtain rfl := List.mem_singleton.1 hj
        refine wpOp_late hi hap (fun cs b => hsel j oi cs b hi) hQ (hL W hSW hW) fun a' w' hw' => ?_
        have hglt : g < W.heap.size := (Array.getElem?_eq_some_iff.1 hgZ).1
        have hSw' := hS _ _ hSW hw'.1
        refine ⟨hSw', ?_⟩
        rw [Array.setIfInBounds_comm _ _ (Ne.symm hik)]
        refine (ih _ _ _ _ hw'.2 hrk (fun p hp => ?_) (Nat.le_trans hg0 (Nat.le_trans hW.size hw'.1.size))).2 f rfl w' g hSw' (Below.refl _ _) ((hw'.1.block g hglt).trans hgZ) hgg fun p hp => ?_
        · rcases List.mem_cons.1 hp with rfl | hp
          · exact Nat.le_refl _
          · exact Nat.le_trans (hiv p hp) (Nat.le_trans hW.size hw'.1.size)
        · rcases List.mem_cons.1 hp with rfl | hp
          · exact .inl hglt
          · exact hav p hp
      refine ⟨fun W hSW hW => ⟨fun h => (by rw [h] at hr; cases hr), fun j hj => ?_⟩, fun f hfu => A f (by omega)⟩
      rcases hre j hj with rfl | rfl
      · refine wpOp_mono (fun a' w' hw' => ?_) (hL W hSW hW)
        have hSw' := hS _ _ hSW hw'.1
        refine ⟨hSw', (ih _ _ _ _ hw'.2 hrk (fun p hp => ?_) (Nat.le_trans hg0 (Nat.le_trans hW.size hw'.1.size))).1 w' hSw' (Below.refl _ _)⟩
        rcases List.mem_cons.1 hp with rfl | hp
        · exact Nat.le_refl _
        · exact Nat.le_trans (hiv p hp) (Nat.le_trans hW.size hw'.1.size)
      · exact lay W hSW hW fun W' g h1 h2 h3 h4 h5 => A fuel rfl W' g h1 h2 h3 h4 h5
    · refine ⟨fun W hSW hW => ⟨fun h => (by rw [h] at hr; cases hr), fun j hj => ?_⟩, fun f hfu W g hSW hW hgZ hgg hav => ?_⟩
      · rw [hre] at hj
        obtain rfl := List.mem_singleton.1 hj
        exact lay W hSW hW hL
      · obtain rfl : fuel = f := by omega
        exact hL W g hSW hW hgZ hgg hav

theorem region {id : Nat} {l : List Oper} {a : Act} {w : World} (k : Nat) (ok : Oper) (Z : Obj) (hm : P.follows .mixedOrders = true) (hk : l.toArray[k]? = some ok) (hg : ok.guard = none) (ha : ∀ (a : Act) w, (execOp a.eval ok).run P w = .ok (.value (.pointer (some ⟨w.heap.size, 0, none⟩))) (w.alloc Z))
    (hs : Region.noSelect l.toArray = true) (hr : (Region.ready .any l.toArray (Array.replicate l.toArray.size false)).contains k = true) (hQ : ∀ c (a : Act) d v w, Q (.panic c) (a.put d v) w ↔ Q (.panic c) a w) (hS : ∀ W W', S W → Below W.heap.size W W' → S W') (h0 : S w.drew)
    (h : S w.drew → Late P .any l.toArray Q S k ok Z w.heap.size l.toArray.size (Array.replicate l.toArray.size false) a w.drew []) : (Code.region id l.toArray true).wp P Q a w :=
  wp_region_held_drew hm h0 fun hSd => (late_sound hk hg ha (Region.noSelect_spec hs) hQ hS _ _ _ _ _ (h hSd) (by simpa using hr) (fun p hp => by cases hp) zl).1 _ hSd (Below.refl _ _)
theorem take {i : Nat} {oi : Oper} {v : Value} {fuel : Nat} {listed : Array Bool} {a : Act} {w : World} {iv : List (Nat × Nat)} (hi : ops[i]? = some oi) (hik : (i == k) = false) (hf : Region.free md ops listed i = true) (hr : (Region.ready md ops listed).contains i = true) (hap : ok.apart ops oi = true)
    (hy : YieldsIf P ops S oi v a) (h : Late P md ops Q S k ok Z g0 fuel (listed.setIfInBounds i true) (a.put oi.dst v) w iv) : Late P md ops Q S k ok Z g0 (fuel + 1) listed a w iv :=
  .inl ⟨i, oi, v, hi, by simpa using hik, hf, by simpa using hr, hap, hy, h⟩
theorem call {i : Nat} {oi : Oper} {fuel : Nat} {listed : Array Bool} {a : Act} {w : World} {iv : List (Nat × Nat)} (hi : ops[i]? = some oi) (hik : (i == k) = false) (hre : (Region.ready md ops listed).all (fun j => j == i || j == k) = true) (hre2 : Region.ready md ops (listed.setIfInBounds k true) = [i]) (hap : ok.apart ops oi = true)
    (h : ∀ W, S W → Below w.heap.size w W → ∀ K' : Act → World → Prop, Shut (∀ a' w', Below W.heap.size W w' → Late P md ops Q S k ok Z g0 (fuel + 1) (listed.setIfInBounds i true) a' w' ((W.heap.size, w'.heap.size) :: iv) → K' a' w') → if Region.wanted oi (yielded ops a.tmps) = true then Oper.wp P oi a W K' Q else K' (a.put oi.dst undef) W) :
    Late P md ops Q S k ok Z g0 (fuel + 2) listed a w iv :=
  .inr (.inl ⟨i, oi, hi, by simpa using hik, fun j hj => by
    have := List.all_eq_true.1 hre j hj
    simpa using this, hre2, Nat.succ_pos _, hap, fun W hS hW => wpOp_step hi fun K' hK => h W hS hW K' fun a' w' h1 h2 => hK a' w' ⟨h1, h2⟩⟩)
theorem last {fuel : Nat} {listed : Array Bool} {a : Act} {w : World} {iv : List (Nat × Nat)} (hre : Region.ready md ops listed = [k])
    (h : ∀ W g, S W → Below w.heap.size w W → W.heap[g]? = some Z → g0 ≤ g → (∀ p ∈ iv, g < p.1 ∨ p.2 ≤ g) → wpAnyH P md ops Q S fuel (listed.setIfInBounds k true) (a.put ok.dst (.pointer (some ⟨g, 0, none⟩))) W) :
    Late P md ops Q S k ok Z g0 (fuel + 1) listed a w iv := .inr (.inr ⟨hre, h⟩)
end
end Go.Proofs.YtlkgjceddbclpaaGreat.Late

