/-
  MCPureB. By an AI agent.
-/
import Derived.Test.YtbdealddjonobaaGreatYZ
import Derived.Test.YtbdealddjonobaaGreatYB1
namespace Go.Proofs.YtbdealddjonobaaGreat.Mta
open Wire Term Rig

def cont {α : Type} (acc : List α) (x : List α × Int) : List α × Int := if x.2 ≠ 0 then ([], x.2) else (acc ++ x.1, 0)
theorem cont_nil {α : Type} (x : List α × Int) (h : x.2 ≠ 0 → x.1 = []) : cont [] x = x := by
  unfold cont
  by_cases h2 : x.2 ≠ 0
  · rw [if_pos h2, ← h h2]
  · rw [if_neg h2]
    have : x.2 = 0 := Decidable.not_not.1 h2
    rw [← this]; rfl
theorem cont_cons {α : Type} (acc : List α) (a : α) (x : List α × Int) : cont acc (if x.2 ≠ 0 then ([], x.2) else (a :: x.1, 0)) = cont (acc ++ [a]) x := by
  unfold cont
  by_cases h2 : x.2 ≠ 0
  · rw [if_pos h2, if_pos h2, if_pos h2]
  · rw [if_neg h2, if_neg h2, if_neg (by simp), List.append_assoc]; rfl
theorem cont_err {α : Type} (acc : List α) {x : List α × Int} (h : x.2 ≠ 0) : cont acc x = ([], x.2) := by unfold cont; rw [if_pos h]
def adr (known : List (Tm × Tm)) : List Tm → List (Tm × Tm) × Int
  | [] => ([], 0)
  | s :: l => match known.find? (fun k => k.1 == s) with
    | none => ([], 4)
    | some k => if kind k.2 ≠ 117 then ([], 1) else if (adr known l).2 ≠ 0 then ([], (adr known l).2) else (k :: (adr known l).1, 0)
theorem adr_nil (known : List (Tm × Tm)) : ∀ l : List Tm, (adr known l).2 ≠ 0 → (adr known l).1 = []
  | [], h => absurd rfl h
  | s :: l, h => by
    rw [adr] at h ⊢
    cases hk : known.find? (fun k => k.1 == s) with
    | none => rfl
    | some k =>
      rw [hk] at h
      simp only at h ⊢
      by_cases h1 : kind k.2 ≠ 117
      · rw [if_pos h1]
      · rw [if_neg h1] at h ⊢
        by_cases h2 : (adr known l).2 ≠ 0
        · rw [if_pos h2]
        · rw [if_neg h2] at h; exact absurd rfl h
theorem adr_pubs (known : List (Tm × Tm)) : ∀ l : List Tm, (adr known l).2 = (pubs known l).2 ∧ ((pubs known l).2 = 0 → (adr known l).1 = l.zip (pubs known l).1 ∧ l.length = (pubs known l).1.length)
  | [] => ⟨rfl, fun _ => ⟨rfl, rfl⟩⟩
  | s :: l => by
    obtain ⟨h1, h2⟩ := adr_pubs known l
    rw [adr, pubs]
    unfold pub
    cases hk : known.find? (fun k => k.1 == s) with
    | none => exact ⟨rfl, fun h => by simp at h⟩
    | some k =>
      have hs : k.1 = s := by simpa using List.find?_some hk
      simp only
      by_cases h3 : kind k.2 = 117
      · rw [if_neg (by simpa using h3), if_pos h3]
        simp only
        rw [if_neg (show ¬ ((0 : Int) ≠ 0) by simp), h1]
        by_cases h4 : (pubs known l).2 ≠ 0
        · rw [if_pos h4, if_pos h4]; exact ⟨rfl, fun h => absurd h h4⟩
        · rw [if_neg h4, if_neg h4]
          obtain ⟨h5, h6⟩ := h2 (Decidable.not_not.1 h4)
          exact ⟨rfl, fun _ => ⟨by rw [h5]; simp only [List.zip_cons_cons, ← hs], by simp only [List.length_cons, h6]⟩⟩
      · rw [if_pos h3, if_neg h3]
        simp only
        rw [if_pos (show ((1 : Int) ≠ 0) by simp)]
        exact ⟨rfl, fun h => by simp at h⟩
theorem vfs_nil : ∀ l : List Tm, (vfs l).2 ≠ 0 → (vfs l).1 = []
  | [], h => absurd rfl h
  | s :: l, h => by
    rw [vfs] at h ⊢
    by_cases h1 : (one 117 s).2 ≠ 0
    · rw [if_pos h1]
    · rw [if_neg h1] at h ⊢
      by_cases h2 : (vfs l).2 ≠ 0
      · rw [if_pos h2]
      · rw [if_neg h2] at h; exact absurd rfl h
def boxd (p state t : Tm) : Tm × Int := if (two 112 state t).2 ≠ 0 then ([], (two 112 state t).2) else box p (two 112 state t).1
def bls (r : Rt) (state signer : Tm) : List (Tm × Tm) → List (Tm × Tm) × Int
  | [] => ([], 0)
  | k :: l => if (boxd k.2 state (if can r k.1 true = true then signer else emptyT)).2 ≠ 0 then ([], (boxd k.2 state (if can r k.1 true = true then signer else emptyT)).2)
    else if (bls r state signer l).2 ≠ 0 then ([], (bls r state signer l).2) else ((k.1, (boxd k.2 state (if can r k.1 true = true then signer else emptyT)).1) :: (bls r state signer l).1, 0)
theorem bls_nil (r : Rt) (state signer : Tm) : ∀ l : List (Tm × Tm), (bls r state signer l).2 ≠ 0 → (bls r state signer l).1 = []
  | [], h => absurd rfl h
  | k :: l, h => by
    rw [bls] at h ⊢
    by_cases h1 : (boxd k.2 state (if can r k.1 true = true then signer else emptyT)).2 ≠ 0
    · rw [if_pos h1]
    · rw [if_neg h1] at h ⊢
      by_cases h2 : (bls r state signer l).2 ≠ 0
      · rw [if_pos h2]
      · rw [if_neg h2] at h; exact absurd rfl h
theorem bls_is {r : Rt} {state signer : Tm} : ∀ {l q : List Tm}, (∀ u ∈ l, can r u true = decide (u ∈ r.ws)) → l.length = q.length → bls r state signer (l.zip q) = blkAll r state signer l q
  | [], q, _, hl => by
    obtain rfl : q = [] := by simpa using hl.symm
    rfl
  | u :: l, [], _, hl => by simp at hl
  | u :: l, p :: q, h, hl => by
    rw [List.zip_cons_cons, bls, blkAll, bls_is (l := l) (q := q) (fun x hx => h x (by simp [hx])) (by simpa using hl)]
    have hc := h u (by simp)
    have hb : (boxd p state (if can r u true = true then signer else emptyT)).2 = (blk r u state signer p).2 ∧ ((boxd p state (if can r u true = true then signer else emptyT)).2 = 0 → (u, (boxd p state (if can r u true = true then signer else emptyT)).1) = (blk r u state signer p).1) := by
      rw [hc]
      simp only [decide_eq_true_eq]
      unfold boxd blk
      by_cases h2 : (two 112 state (if u ∈ r.ws then signer else emptyT)).2 ≠ 0
      · rw [if_pos h2, if_pos h2]; exact ⟨rfl, fun h => absurd h h2⟩
      · rw [if_neg h2, if_neg h2]; exact ⟨rfl, fun _ => rfl⟩
    simp only
    rw [hb.1]
    by_cases h1 : (blk r u state signer p).2 ≠ 0
    · rw [if_pos h1, if_pos h1]
    · rw [if_neg h1, if_neg h1]
      rw [hb.2 (by rw [hb.1]; exact Decidable.not_not.1 h1)]
theorem can_oth {r : Rt} (h : RR r) : ∀ u ∈ oth r, can r u true = decide (u ∈ r.ws) := fun u hu => by
  have h1 := (oth_names h u (by rw [List.mem_append]; exact mem_oth.1 hu)).2
  unfold can
  rw [Bool.eq_iff_iff]
  simp only [decide_eq_true_eq]
  constructor
  · rintro ⟨_, h2 | h2 | ⟨h2, _⟩⟩
    · exact absurd h2 h1
    · exact h2
    · cases h2
  · exact fun h2 => ⟨h, .inr (.inl h2)⟩
def blksC (r : Rt) (root signer : Tm) (to : List (Tm × Tm)) : List (Tm × Tm) × Int :=
  if to = [] then ([], 0) else if (Reg.state root r.ep).2 ≠ 0 then ([], (Reg.state root r.ep).2) else bls r (Reg.state root r.ep).1 signer to
def buildC (secret : Tm) (r : Rt) (ver : Nat) (root : Tm) (sgs : List Tm) (known : List (Tm × Tm)) : Mt × Int :=
  if (adr known (oth r)).2 ≠ 0 then (mzero, (adr known (oth r)).2)
  else if (vfs sgs).2 ≠ 0 then (mzero, (vfs sgs).2)
  else if (blksC r root (sgs.getD r.ep.toNat []) (adr known (oth r)).1).2 ≠ 0 then (mzero, (blksC r root (sgs.getD r.ep.toNat []) (adr known (oth r)).1).2)
  else built r ver (vfs sgs).1 (blksC r root (sgs.getD r.ep.toNat []) (adr known (oth r)).1).1 secret
theorem buildC_is {secret : Tm} {r : Rt} {ver : Nat} {root : Tm} {sgs : List Tm} {known : List (Tm × Tm)} (h : ¬ (¬ right secret = true ∨ ¬ right root = true ∨ ¬ RR r ∨ (sgs.length : Int) ≠ r.ep + 1 ∨ ¬ (∀ t ∈ sgs, right t = true))) : build secret r ver root sgs known = buildC secret r ver root sgs known := by
  have hr : RR r := Decidable.not_not.1 fun e => h (.inr (.inr (.inl e)))
  obtain ⟨h1, h2⟩ := adr_pubs known (oth r)
  unfold build buildC
  rw [if_neg h, h1]
  by_cases hp : (pubs known (oth r)).2 ≠ 0
  · rw [if_pos hp, if_pos hp]
  · rw [if_neg hp, if_neg hp]
    obtain ⟨h3, h4⟩ := h2 (Decidable.not_not.1 hp)
    by_cases hv : (vfs sgs).2 ≠ 0
    · rw [if_pos hv, if_pos hv]
    · rw [if_neg hv, if_neg hv]
      by_cases ho : oth r = []
      · have e1 : (adr known (oth r)).1 = [] := by rw [h3, ho]; rfl
        have e2 : blksC r root (sgs.getD r.ep.toNat []) (adr known (oth r)).1 = ([], 0) := by unfold blksC; rw [if_pos e1]
        have e3 : blkAll r (Reg.state root r.ep).1 (sgs.getD r.ep.toNat []) (oth r) (pubs known (oth r)).1 = ([], 0) := by rw [ho]; rfl
        rw [if_neg (fun e => e.2 ho), e2, e3]
      · have e1 : (adr known (oth r)).1 ≠ [] := by
          intro e
          rw [h3] at e
          have := congrArg List.length e
          rw [List.length_zip, ← h4] at this
          exact ho (List.length_eq_zero_iff.1 (by simpa using this))
        have e2 : blksC r root (sgs.getD r.ep.toNat []) (adr known (oth r)).1 = if (Reg.state root r.ep).2 ≠ 0 then ([], (Reg.state root r.ep).2) else blkAll r (Reg.state root r.ep).1 (sgs.getD r.ep.toNat []) (oth r) (pubs known (oth r)).1 := by
          unfold blksC; rw [if_neg e1, h3, bls_is (can_oth hr) h4]
        rw [e2]
        by_cases hs : (Reg.state root r.ep).2 ≠ 0
        · rw [if_pos ⟨hs, ho⟩, if_pos hs, if_pos hs]
        · rw [if_neg (fun e => hs e.1), if_neg hs]
end Go.Proofs.YtbdealddjonobaaGreat.Mta

