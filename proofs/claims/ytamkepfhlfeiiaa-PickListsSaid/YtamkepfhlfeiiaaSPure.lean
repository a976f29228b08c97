/-
  PLAIN FACTS, OF NO PROGRAM: stores (layer 12): what is there, what ever was; rows of keys that rise. By an AI agent; no person has read it.
-/
import Derived.Test.YtamkepfhlfeiiaaQ1
namespace Go.Proofs.Ytamkepfhlfeiiaa.Sto
open Wire

set_option linter.unusedVariables false

abbrev Tm := List UInt8
/-- All blobs that were ever put at each key, whether the last is there, how many were put. -/
structure Stt where
  ver : Tm → List Tm
  is : Tm → Bool
  n : Nat
def s0 : Stt := ⟨fun _ => [], fun _ => false, 0⟩
def putE (s : Stt) (k b : Tm) : Int := if k = [] ∨ 200 < k.length then 1 else if 40000 < b.length then 10 else if 2000 ≤ s.n then 11 else 0
def putD (s : Stt) (k b : Tm) : Stt := ⟨fun x => if x = k then s.ver k ++ [b] else s.ver x, fun x => decide (x = k) || s.is x, s.n + 1⟩
def putS (s : Stt) (k b : Tm) : Stt := if putE s k b = 0 then putD s k b else s
def delE (s : Stt) (k : Tm) : Int := if s.is k = true then 0 else 4
def delS (s : Stt) (k : Tm) : Stt := ⟨s.ver, fun x => !decide (x = k) && s.is x, s.n⟩
def getS (s : Stt) (k : Tm) : Tm × Int := if s.is k = true then ((s.ver k).getLastD [], 0) else ([], 4)

theorem less_irrefl (a : Tm) : Op.bytesLess a a = false := by
  induction a with
  | nil => rfl
  | cons x t ih => simp [Op.bytesLess, ih, UInt8.lt_irrefl]
theorem less_asymm : ∀ {a b : Tm}, Op.bytesLess a b = true → Op.bytesLess b a = true → False
  | [], [], h, _ => by cases h
  | [], _ :: _, _, h => by cases h
  | _ :: _, [], h, _ => by cases h
  | x :: a, y :: b, h1, h2 => by
    simp only [Op.bytesLess, Bool.or_eq_true, Bool.and_eq_true, decide_eq_true_eq, beq_iff_eq] at h1 h2
    rcases h1 with h1 | ⟨rfl, h1⟩
    · rcases h2 with h2 | ⟨rfl, h2⟩
      · exact UInt8.lt_asymm h1 h2
      · exact UInt8.lt_irrefl _ h1
    · rcases h2 with h2 | ⟨_, h2⟩
      · exact UInt8.lt_irrefl _ h2
      · exact less_asymm h1 h2
/-- Rising, each once. -/
def Rising (l : List Tm) : Prop := l.Pairwise (fun a b => Op.bytesLess a b = true)
theorem rising_eq : ∀ {a b : List Tm}, Rising a → Rising b → (∀ x, x ∈ a ↔ x ∈ b) → a = b
  | [], [], _, _, _ => rfl
  | [], y :: b, _, _, h => by have := (h y).2 (by simp); cases this
  | x :: a, [], _, _, h => by have := (h x).1 (by simp); cases this
  | x :: a, y :: b, ha, hb, h => by
    obtain ⟨ha1, ha2⟩ := List.pairwise_cons.1 ha
    obtain ⟨hb1, hb2⟩ := List.pairwise_cons.1 hb
    have e : x = y := by
      have h1 : x ∈ y :: b := (h x).1 (by simp)
      have h2 : y ∈ x :: a := (h y).2 (by simp)
      rcases List.mem_cons.1 h1 with h1 | h1
      · exact h1
      · rcases List.mem_cons.1 h2 with h2 | h2
        · exact h2.symm
        · exact (less_asymm (ha1 y h2) (hb1 x h1)).elim
    subst e
    have ht : ∀ z, z ∈ a ↔ z ∈ b := fun z => by
      constructor
      · intro hz
        rcases List.mem_cons.1 ((h z).1 (List.mem_cons_of_mem _ hz)) with rfl | h3
        · have := ha1 z hz; rw [less_irrefl] at this; cases this
        · exact h3
      · intro hz
        rcases List.mem_cons.1 ((h z).2 (List.mem_cons_of_mem _ hz)) with rfl | h3
        · have := hb1 z hz; rw [less_irrefl] at this; cases this
        · exact h3
    rw [rising_eq ha2 hb2 ht]
theorem rising_nodup {l : List Tm} (h : Rising l) : l.Nodup := List.Pairwise.imp (fun {a b} hab e => by subst e; rw [less_irrefl] at hab; cases hab) h
/-- A list of keys that rises, of all that are there and begin so; of all that ever were. -/
def Lists (s : Stt) (p : Tm) (l : List Tm) : Prop := Rising l ∧ ∀ x, x ∈ l ↔ (s.is x = true ∧ p <+: x)
def Evers (s : Stt) (l : List Tm) : Prop := Rising l ∧ ∀ x, x ∈ l ↔ s.ver x ≠ []
theorem lists_same {s t : Stt} {p : Tm} {l m : List Tm} (h : ∀ x, s.is x = t.is x) (h1 : Lists s p l) (h2 : Lists t p m) : l = m := rising_eq h1.1 h2.1 fun x => by rw [h1.2, h2.2, h]
/-- What a store is as it should be. -/
structure Fine (s : Stt) : Prop where
  had : ∀ x, s.is x = true → s.ver x ≠ []
  key : ∀ x, s.ver x ≠ [] → x ≠ [] ∧ x.length ≤ 200
  blob : ∀ x, ∀ b ∈ s.ver x, b.length ≤ 40000
  few : s.n ≤ 2000
  many : ∀ x, (s.ver x).length ≤ s.n
theorem fine0 : Fine s0 := ⟨(fun x h => by cases h), (fun x h => absurd rfl h), (fun x b h => by cases h), Nat.zero_le _, (fun x => Nat.le_refl _)⟩
theorem putE_ok {s : Stt} {k b : Tm} : putE s k b = 0 ↔ (k ≠ [] ∧ k.length ≤ 200) ∧ b.length ≤ 40000 ∧ s.n < 2000 := by
  unfold putE
  by_cases h1 : k = [] ∨ 200 < k.length
  · rw [if_pos h1]
    constructor
    · intro h; cases h
    · rintro ⟨⟨h2, h3⟩, _⟩
      rcases h1 with h1 | h1
      · exact absurd h1 h2
      · omega
  · rw [if_neg h1]
    have h1' : k ≠ [] ∧ k.length ≤ 200 := ⟨fun h => h1 (.inl h), by have : ¬ 200 < k.length := fun h => h1 (.inr h); omega⟩
    by_cases h2 : 40000 < b.length
    · rw [if_pos h2]
      constructor
      · intro h; cases h
      · rintro ⟨_, h3, _⟩; omega
    · rw [if_neg h2]
      by_cases h3 : 2000 ≤ s.n
      · rw [if_pos h3]
        constructor
        · intro h; cases h
        · rintro ⟨_, _, h4⟩; omega
      · rw [if_neg h3]
        exact ⟨fun _ => ⟨h1', by omega, by omega⟩, fun _ => rfl⟩
theorem fine_put {s : Stt} (h : Fine s) (k b : Tm) : Fine (putS s k b) := by
  unfold putS
  split
  · rename_i h0
    obtain ⟨h1, h2, h3⟩ := putE_ok.1 h0
    refine ⟨fun x hx => ?_, fun x hx => ?_, fun x c hc => ?_, ?_, fun x => ?_⟩
    · show (if x = k then s.ver k ++ [b] else s.ver x) ≠ []
      split
      · simp
      · rename_i hn
        have hx' : (decide (x = k) || s.is x) = true := hx
        rw [decide_eq_false hn, Bool.false_or] at hx'
        exact h.had x hx'
    · by_cases hn : x = k
      · rw [hn]; exact h1
      · have hx' : (if x = k then s.ver k ++ [b] else s.ver x) ≠ [] := hx
        rw [if_neg hn] at hx'
        exact h.key x hx'
    · have hc' : c ∈ (if x = k then s.ver k ++ [b] else s.ver x) := hc
      split at hc'
      · rcases List.mem_append.1 hc' with h4 | h4
        · exact h.blob k c h4
        · rw [List.mem_singleton.1 h4]; exact h2
      · exact h.blob x c hc'
    · show s.n + 1 ≤ 2000; omega
    · show (if x = k then s.ver k ++ [b] else s.ver x).length ≤ s.n + 1
      split
      · rw [List.length_append]; have := h.many k; simp only [List.length_cons, List.length_nil]; omega
      · have := h.many x; omega
  · exact h
theorem fine_del {s : Stt} (h : Fine s) (k : Tm) : Fine (delS s k) := ⟨fun x hx => h.had x (by
  have : (!decide (x = k) && s.is x) = true := hx
  simp only [Bool.and_eq_true] at this
  exact this.2), h.key, h.blob, h.few, h.many⟩
theorem put_n (s : Stt) (k b : Tm) : (putS s k b).n ≤ s.n + 1 := by
  unfold putS
  split
  · exact Nat.le_refl _
  · exact Nat.le_succ _
end Go.Proofs.Ytamkepfhlfeiiaa.Sto
