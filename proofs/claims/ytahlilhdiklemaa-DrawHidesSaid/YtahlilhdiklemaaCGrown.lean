/-
  CONTRACTS of the laws' own helpers joined, grown: right terms in which no atom of 5 or more stands. By an AI agent; no person has read it.
-/
import Derived.Test.YtahlilhdiklemaaClo
import Derived.Test.YtahlilhdiklemaaTReads
import Derived.Test.YtahlilhdiklemaaTPick
namespace Go.Proofs.Ytahlilhdiklemaa.Clo
open Go.RowKit Wire Term

/-- A right term in which no atom of 5 or more stands. -/
def Good (x : List UInt8) : Prop := right x = true ∧ ∀ n, 5 ≤ n → n < 18446744073709551616 → Clean (97 :: put n) x
theorem put_inj {n m : Nat} (hn : n < 18446744073709551616) (hm : m < 18446744073709551616) (h : put n = put m) : n = m := by
  have h1 := take_put hn []
  have h2 := take_put hm []
  rw [h, h2] at h1
  have := Option.some.inj h1
  injection this with h3 _
  exact h3.symm
theorem good_of {x : List UInt8} (h : right x = true) (h97 : x.headD 0 ≠ 97) (hp : ∀ p ∈ pts x, Good p) : Good x := by
  refine ⟨h, fun n h5 hn hs => ?_⟩
  rcases sub_cases hs with h1 | ⟨p, hpp, h1⟩
  · rw [← h1] at h97; exact h97 rfl
  · exact (hp p hpp).2 n h5 hn h1
theorem good_atom {v : Nat} (hv : v < 5) : Good (ofAtom v) := by
  have hr : right (ofAtom v) = true := ofAtom_right (by omega)
  refine ⟨hr, fun n h5 hn hs => ?_⟩
  rcases sub_cases hs with h1 | ⟨p, hpp, _⟩
  · have h2 : put n = put v := by injection h1
    have := put_inj hn (by omega) h2
    omega
  · rw [pts_zero hr (.inl rfl)] at hpp; cases hpp
theorem good_text {s : List UInt8} (h : right (116 :: s) = true) : Good (116 :: s) := good_of h (by simp) (fun p hp => by rw [pts_zero h (.inr rfl)] at hp; cases hp)
theorem pts_bi {k : UInt8} {a b : List UInt8} (hk : k = 112 ∨ k = 115 ∨ k = 98 ∨ k = 103) (h : right (k :: (a ++ b)) = true) (ha : right a = true) : pts (k :: (a ++ b)) = [a, b] := by
  obtain ⟨x, y, h1, h2, h3, h4, _⟩ := pts_two h hk
  obtain ⟨rfl, rfl⟩ := right_cut ha h3 h1
  exact h2
theorem one_made {k : UInt8} {a x : List UInt8} {f : Int} (h : one k a = (x, f)) (h0 : f = 0) : x = k :: a ∧ right (k :: a) = true ∧ right a = true := by
  unfold one at h
  split at h
  · rename_i ha
    rcases made_err h with ⟨_, h1, h2⟩ | ⟨h1, _⟩
    · exact ⟨h1, h2, ha⟩
    · omega
  · simp only [Prod.mk.injEq] at h; omega
theorem two_made {k : UInt8} {a b x : List UInt8} {f : Int} (h : two k a b = (x, f)) (h0 : f = 0) : x = k :: (a ++ b) ∧ right (k :: (a ++ b)) = true ∧ right a = true ∧ right b = true := by
  unfold two at h
  split at h
  · rename_i ha
    rcases made_err h with ⟨_, h1, h2⟩ | ⟨h1, _⟩
    · exact ⟨h1, h2, ha.1, ha.2⟩
    · omega
  · simp only [Prod.mk.injEq] at h; omega
theorem one_good {k : UInt8} {a x : List UInt8} {f : Int} (hk : k = 104 ∨ k = 117) (ha : Good a) (h : one k a = (x, f)) : f = 0 → Good x := fun h0 => by
  obtain ⟨rfl, h1, _⟩ := one_made h h0
  refine good_of h1 (by rcases hk with rfl | rfl <;> simp) fun p hp => ?_
  rw [(pts_one h1 hk).1] at hp
  rw [List.mem_singleton.1 hp]; exact ha
theorem bi_good {k : UInt8} {a b : List UInt8} (hk : k = 112 ∨ k = 115 ∨ k = 98 ∨ k = 103) (h : right (k :: (a ++ b)) = true) (ha : Good a) (hb : Good b) : Good (k :: (a ++ b)) := by
  refine good_of h (by rcases hk with rfl | rfl | rfl | rfl <;> simp) fun p hp => ?_
  rw [pts_bi hk h ha.1] at hp
  have : p = a ∨ p = b := by simpa using hp
  rcases this with rfl | rfl
  · exact ha
  · exact hb
theorem two_good {k : UInt8} {a b x : List UInt8} {f : Int} (hk : k = 112 ∨ k = 115 ∨ k = 98 ∨ k = 103) (ha : Good a) (hb : Good b) (h : two k a b = (x, f)) : f = 0 → Good x := fun h0 => by
  obtain ⟨rfl, h1, _⟩ := two_made h h0
  exact bi_good hk h1 ha hb
theorem one_empty {k : UInt8} {a x : List UInt8} {f : Int} (h : one k a = (x, f)) : f ≠ 0 → right x = false := fun h0 => by
  unfold one at h
  split at h
  · rcases made_err h with ⟨h1, _⟩ | ⟨_, h1, _⟩
    · exact absurd h1 h0
    · rw [h1]; rfl
  · simp only [Prod.mk.injEq] at h; rw [← h.1]; rfl
theorem box_good {y b x : List UInt8} {g f : Int} (hy : g = 0 → Good y) (hye : g ≠ 0 → right y = false) (hb : Good b) (h : box y b = (x, f)) : f = 0 → Good x := fun h0 => by
  unfold box at h
  split at h
  · rename_i hr
    by_cases hg : g = 0
    · exact two_good (by simp) (hy hg) hb h h0
    · have := hye hg
      rw [hr.1] at this; cases this
  · simp only [Prod.mk.injEq] at h; omega
def AGood (e : Ending) : Prop := ∃ T : ByteArray, Good T.data.toList ∧ e = .returned (.string T)
/-- The stack of good terms. -/
def GStack (w : World) (n : Nat) (v : Value) (wr : World) : Prop := ∃ ys : List ByteArray, ys.length = n ∧ wr.ownsRow w.heap.size 9 1 v n (sv ys) ∧ (∀ y ∈ ys, Good y.data.toList) ∧ Below w.heap.size w wr
theorem getD_good {ys : List ByteArray} {n j : Nat} (hy : ys.length = n) (hj : j < n) (h : ∀ y ∈ ys, Good y.data.toList) : Good (ys.getD j ByteArray.empty).data.toList :=
  h _ (getD_mem (by omega) rfl)

end Go.Proofs.Ytahlilhdiklemaa.Clo
