/-
  CONTRACT of the code's had (package closure): all that is marked, sorted. By an AI agent; no person has read it.
-/
import Derived.Test.YtahlilhdiklemaaCTogether
import Derived.Test.YtahlilhdiklemaaShelfS
import Derived.Sort.OwnSorted
import Derived.Sort.Walk0
namespace Go.Proofs.Ytahlilhdiklemaa.Clo
open Go.RowKit Go.Sort Wire Term

theorem sv_enc (ss : List ByteArray) : (bl ss).map encStr = sv ss := by
  simp only [bl, sv, List.map_map]
  refine List.map_congr_left fun y _ => ?_
  simp [encStr]
def unb (l : List Tm) : List ByteArray := l.map fun x => ⟨x.toArray⟩
theorem bl_unb (l : List Tm) : bl (unb l) = l := by
  unfold bl unb
  rw [List.map_map]
  have : ((fun y : ByteArray => y.data.toList) ∘ fun x : Tm => (⟨x.toArray⟩ : ByteArray)) = id := by funext x; simp
  rw [this, List.map_id]
theorem sv_unb (l : List Tm) : l.map encStr = sv (unb l) := by rw [← sv_enc, bl_unb]
/-- What the library's sort leaves of a row in which no bytes stand twice. -/
theorem rising_sort {l : List Tm} (h : l.Nodup) : Rising (l.mergeSort fun x y => decide (x ≤ y)) ∧ ∀ x, x ∈ (l.mergeSort fun x y => decide (x ≤ y)) ↔ x ∈ l := by
  have hp := List.mergeSort_perm l (fun x y => decide (x ≤ y))
  refine ⟨?_, fun x => hp.mem_iff⟩
  have hs := List.pairwise_mergeSort (le := fun x y : Tm => decide (x ≤ y)) (fun a b c h1 h2 => by simp only [decide_eq_true_eq] at *; exact List.le_trans h1 h2) (fun a b => by simp only [Bool.or_eq_true, decide_eq_true_eq]; exact List.le_total a b) l
  have hn : (l.mergeSort fun x y => decide (x ≤ y)).Pairwise (fun a b => a ≠ b) := (hp.nodup_iff).2 h
  refine List.Pairwise.imp₂ (fun {a b} h1 h2 => ?_) hs hn
  rw [bytesLess_eq]
  simp only [decide_eq_true_eq] at h1 ⊢
  exact Classical.byContradiction fun hn => h2 (List.le_antisymm h1 (List.not_lt.1 hn))
/-- What has been collected. -/
def Coll (K : List Tm) (F : Tm → Fa) (left : Lit → Bool) (ss : List ByteArray) : Prop := (bl ss).Nodup ∧ ∀ x, x ∈ bl ss ↔ (x ∈ K ∧ (F x).1 = true ∧ left (.string x) = false)
theorem coll_no {K : List Tm} {F : Tm → Fa} {left : Lit → Bool} {ss : List ByteArray} {t : Tm} (h : Coll K F left ss) (hf : (F t).1 = false) : Coll K F (fun z => left z && !z.sameKey (.string t)) ss := by
  refine ⟨h.1, fun x => ?_⟩
  rw [h.2 x]
  by_cases e : x = t
  · rw [e, hf]; simp
  · simp [Lit.sameKey, e]
theorem coll_yes {K : List Tm} {F : Tm → Fa} {left : Lit → Bool} {ss : List ByteArray} {s : ByteArray} (h : Coll K F left ss) (hK : s.data.toList ∈ K) (hf : (F s.data.toList).1 = true) (hl : left (.string s.data.toList) = true) : Coll K F (fun z => left z && !z.sameKey (.string s.data.toList)) (ss ++ [s]) := by
  have hnew : s.data.toList ∉ bl ss := fun e => by
    have := ((h.2 _).1 e).2.2
    rw [hl] at this; cases this
  refine ⟨?_, fun x => ?_⟩
  · rw [bl_app']
    refine List.nodup_append.2 ⟨h.1, by simp, fun a ha b hb => ?_⟩
    rw [List.mem_singleton.1 hb]
    exact fun e => hnew (e ▸ ha)
  · rw [bl_app', List.mem_append, List.mem_singleton, h.2 x]
    by_cases e : x = s.data.toList
    · rw [e]; simp [hK, hf, Lit.sameKey]
    · simp [Lit.sameKey, e]
/-- A fact's value, whatever it is of. -/
theorem Mind.value {base pb mb : Nat} {own : Nat → Tag} {nv : Value} {K : List Tm} {F : Tm → Fa} {N : List Tm} {V : Tm → Value} {w : World} (h : Mind base pb mb own nv K F N V w) : ∀ t ∈ K, ∃ (kb : Int) (b2 : Bool) (a ia oa : Option Addr) (n c il ic ol oc : Nat), V t = .agg #[.int .u8 kb, .slice a n c, .bool (F t).1, .bool b2, .slice ia il ic, .slice oa ol oc] := fun t ht => by
  obtain ⟨pv, iv, ov, hv, hp, hi, ho⟩ := h.rows t ht
  obtain ⟨a, c, rfl⟩ := hp.form
  obtain ⟨ia, ic, rfl⟩ := hi.form
  obtain ⟨oa, oc, rfl⟩ := ho.form
  exact ⟨_, _, _, _, _, _, _, _, _, _, _, hv⟩
/-- A rising list, as an answer. -/
def LiE (F : Tm → Fa) (e : Ending) (w' : World) : Prop := ∃ (A : Option Addr) (c : Nat) (ys : List ByteArray), e = .returned (.slice A ys.length c) ∧ ys.length ≤ c ∧ ys.length ≤ 100000000 ∧ SReads w' A ys ∧ Rising (bl ys) ∧ ∀ x, x ∈ bl ys ↔ (F x).1 = true
end Go.Proofs.Ytahlilhdiklemaa.Clo
