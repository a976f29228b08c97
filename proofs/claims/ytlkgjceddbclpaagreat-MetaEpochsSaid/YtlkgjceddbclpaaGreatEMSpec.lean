/-
  MOth, MRight, MAll, MBody, MCheck, MSpec. By an AI agent.
-/
import Derived.Test.YtlkgjceddbclpaaGreatEZ
import Derived.Laws.Cover1
import Derived.Laws.AppendOwnNone
import Derived.Test.YtlkgjceddbclpaaGreatEMMem
import Derived.Test.YtlkgjceddbclpaaGreatEH1
import Derived.Test.YtlkgjceddbclpaaGreatEOrd
import Derived.Test.YtlkgjceddbclpaaGreatET1
import Derived.Test.YtlkgjceddbclpaaGreatEMBack
import Derived.Test.YtlkgjceddbclpaaGreatEW1
import Derived.Test.YtlkgjceddbclpaaGreatEG2
namespace Go.Proofs.YtlkgjceddbclpaaGreat.Mta
open Go.RowKit Wire Rig

set_option linter.unusedSimpArgs false
def Rise (l : List Tm) : Prop := l.Pairwise (fun a b => lt a b = true)
theorem bl_app (a b : List ByteArray) : bl (a ++ b) = bl a ++ bl b := by unfold bl; rw [List.map_append]
end Go.Proofs.YtlkgjceddbclpaaGreat.Mta

namespace Go.Proofs.YtlkgjceddbclpaaGreat.Mta
open Go.RowKit Wire Term Rig

set_option linter.unusedSimpArgs false
def Mx (g : Nat) (w : World) (o f : ByteArray) (ep : Int) (A : Option Addr) (n c : Nat) (B : Option Addr) (m d : Nat) (ver : Nat) (V : Option Addr) (nv cv : Nat) (K : Option Addr) (nk ck : Nat) (sig : ByteArray) : Prop :=
  (w.cell? ⟨g, 0, none⟩ = some (.string o) ∧ w.cell? ⟨g, 1, none⟩ = some (.string f) ∧ w.cell? ⟨g, 2, none⟩ = some (.int .i64 ep) ∧ w.cell? ⟨g, 3, none⟩ = some (.slice A n c) ∧ w.cell? ⟨g, 4, none⟩ = some (.slice B m d) ∧
  w.cell? ⟨g, 5, none⟩ = some (.int .u64 (ver : Int)) ∧ w.cell? ⟨g, 6, none⟩ = some (.slice V nv cv) ∧ w.cell? ⟨g, 7, none⟩ = some (.slice K nk ck) ∧ w.cell? ⟨g, 8, none⟩ = some (.string sig)) ∧ g < w.heap.size
theorem mx_alloc (w : World) (o f : ByteArray) (ep : Int) (A : Option Addr) (n c : Nat) (B : Option Addr) (m d : Nat) (ver : Nat) (V : Option Addr) (nv cv : Nat) (K : Option Addr) (nk ck : Nat) (sig : ByteArray) (t : TypeId) :
    Mx w.heap.size (w.alloc (.cells #[.string o, .string f, .int .i64 ep, .slice A n c, .slice B m d, .int .u64 (ver : Int), .slice V nv cv, .slice K nk ck, .string sig] t)) o f ep A n c B m d ver V nv cv K nk ck sig := by
  have h : ∀ j, (w.alloc (.cells #[.string o, .string f, .int .i64 ep, .slice A n c, .slice B m d, .int .u64 (ver : Int), .slice V nv cv, .slice K nk ck, .string sig] t)).cell? ⟨w.heap.size, j, none⟩ = (#[.string o, .string f, .int .i64 ep, .slice A n c, .slice B m d, .int .u64 (ver : Int), .slice V nv cv, .slice K nk ck, .string sig] : Array Value)[j]? := fun j => cell_of_row _ _ _ _ _ (0, 0) (heap_alloc_new w _)
  exact ⟨⟨h 0, h 1, h 2, h 3, h 4, h 5, h 6, h 7, h 8⟩, by simp⟩
theorem Mx.below {g : Nat} {w w' : World} {o f : ByteArray} {ep : Int} {A : Option Addr} {n c : Nat} {B : Option Addr} {m d : Nat} {ver : Nat} {V : Option Addr} {nv cv : Nat} {K : Option Addr} {nk ck : Nat} {sig : ByteArray} {M : Nat} (h : Mx g w o f ep A n c B m d ver V nv cv K nk ck sig) (hb : Below M w w') (hg : g < M) : Mx g w' o f ep A n c B m d ver V nv cv K nk ck sig := by
  obtain ⟨⟨h0, h1, h2, h3, h4, h5, h6, h7, h8⟩, h9⟩ := h
  have e := fun j => hb.cell (p := ⟨g, j, none⟩) hg
  exact ⟨⟨(e 0).trans h0, (e 1).trans h1, (e 2).trans h2, (e 3).trans h3, (e 4).trans h4, (e 5).trans h5, (e 6).trans h6, (e 7).trans h7, (e 8).trans h8⟩, Nat.lt_of_lt_of_le h9 hb.size⟩
theorem Mx.call {g : Nat} {w w' : World} {o f : ByteArray} {ep : Int} {A : Option Addr} {n c : Nat} {B : Option Addr} {m d : Nat} {ver : Nat} {V : Option Addr} {nv cv : Nat} {K : Option Addr} {nk ck : Nat} {sig : ByteArray} (h : Mx g w o f ep A n c B m d ver V nv cv K nk ck sig) (hb : Below w.heap.size w w') : Mx g w' o f ep A n c B m d ver V nv cv K nk ck sig := h.below hb h.2
def Blk (l : List Tm) (b : List (Tm × Tm)) : Prop := b.map (·.1) = l ∧ Kds 98 (b.map (·.2))
theorem blk_take {ys : List ByteArray} {ks : List (ByteArray × ByteArray)} {j : Nat} (hj : j < ys.length) (hk : j < ks.length) :
    Blk ((bl ys).take (j + 1)) ((pl ks).take (j + 1)) ↔ Blk ((bl ys).take j) ((pl ks).take j) ∧ (ks.getD j default).1.data.toList = (ys.getD j ByteArray.empty).data.toList ∧ kind (ks.getD j default).2.data.toList = 98 := by
  have hl : ((pl ks).take j).length = ((bl ys).take j).length := by rw [List.length_take, List.length_take, pl_len, bl_len]; omega
  unfold Blk
  rw [bl_get hj, pl_get hk, List.map_append, List.map_append]
  constructor
  · rintro ⟨h1, h2⟩
    obtain ⟨e1, e2⟩ := List.append_inj h1 (by rw [List.length_map]; exact hl)
    exact ⟨⟨e1, fun t ht => h2 t (List.mem_append_left _ ht)⟩, by simpa using e2, h2 _ (List.mem_append_right _ (by simp))⟩
  · rintro ⟨⟨h1, h2⟩, h3, h4⟩
    refine ⟨by rw [h1, List.map_cons, List.map_nil, h3], fun t ht => ?_⟩
    rcases List.mem_append.1 ht with ht | ht
    · exact h2 t ht
    · rw [show t = (ks.getD j default).2.data.toList by simpa using ht]; exact h4
theorem kind_lt (l : Tm) : kind l < 256 := by
  unfold kind
  split
  · exact (l.headD 0).toNat_lt
  · decide
end Go.Proofs.YtlkgjceddbclpaaGreat.Mta

namespace Go.Proofs.YtlkgjceddbclpaaGreat.Mta
open Go.RowKit Wire Term Rig

set_option linter.unusedSimpArgs false
theorem find_at {α : Type} {p : α → Bool} {l : List α} {j : Nat} (hno : ∀ k ∈ l.take j, p k = false) {x : α} (hx : l[j]? = some x) (hp : p x = true) : l.find? p = some x := by
  induction l generalizing j with
  | nil => simp at hx
  | cons y ys ih =>
    cases j with
    | zero =>
      obtain rfl : y = x := by simpa using hx
      rw [List.find?_cons, hp]
    | succ j =>
      rw [List.find?_cons, hno y (by simp)]
      exact ih (fun k hk => hno k (by rw [List.take_succ_cons]; exact List.mem_cons_of_mem _ hk)) (by simpa using hx)
theorem pl_at {ks : List (ByteArray × ByteArray)} {k : Nat} (hk : k < ks.length) : (pl ks)[k]? = some ((ks.getD k default).1.data.toList, (ks.getD k default).2.data.toList) := by
  unfold pl
  rw [List.getElem?_map, List.getElem?_eq_getElem hk]
  simp [List.getD, hk]
end Go.Proofs.YtlkgjceddbclpaaGreat.Mta

namespace Go.Proofs.YtlkgjceddbclpaaGreat.Mta
open Go.RowKit Wire Term Rig

set_option linter.unusedSimpArgs false
theorem lit2_reads8 (W : World) (a0 a1 : ByteArray) (g : Nat) (hg : g = W.heap.size) : SReads (W.alloc (.cells #[.string a0, .string a1] 9)) (some ⟨g, 0, none⟩) [a0, a1] := by
  subst hg
  intro j hj
  refine ⟨_, 0, rfl, by simp, ?_⟩
  have h : ∀ i, (W.alloc (.cells #[.string a0, .string a1] 9)).cell? ⟨W.heap.size, i, none⟩ = (#[.string a0, .string a1] : Array Value)[i]? := fun i => cell_of_row _ _ _ _ _ (0, 0) (heap_alloc_new W _)
  rw [h, Nat.zero_add]
  have : j = 0 ∨ j = 1 := by simp at hj; omega
  rcases this with rfl | rfl <;> rfl
theorem lit4_reads8 (W : World) (a0 a1 a2 a3 : ByteArray) (g : Nat) (hg : g = W.heap.size) : SReads (W.alloc (.cells #[.string a0, .string a1, .string a2, .string a3] 9)) (some ⟨g, 0, none⟩) [a0, a1, a2, a3] := by
  subst hg
  intro j hj
  refine ⟨_, 0, rfl, by simp, ?_⟩
  have h : ∀ i, (W.alloc (.cells #[.string a0, .string a1, .string a2, .string a3] 9)).cell? ⟨W.heap.size, i, none⟩ = (#[.string a0, .string a1, .string a2, .string a3] : Array Value)[i]? := fun i => cell_of_row _ _ _ _ _ (0, 0) (heap_alloc_new W _)
  rw [h, Nat.zero_add]
  have : j = 0 ∨ j = 1 ∨ j = 2 ∨ j = 3 := by simp at hj; omega
  rcases this with rfl | rfl | rfl | rfl <;> rfl
theorem flat_k {k : Nat} : ∀ (l : List Tm), (∀ t ∈ l, t.length ≤ k) → l.flatten.length ≤ l.length * k
  | [], _ => by simp
  | t :: l, h => by
    have h1 := h t (by simp)
    have h2 := flat_k l fun x hx => h x (by simp [hx])
    rw [List.flatten_cons, List.length_append, List.length_cons, Nat.add_mul]; omega
end Go.Proofs.YtlkgjceddbclpaaGreat.Mta

namespace Go.Proofs.YtlkgjceddbclpaaGreat.Mta
open Go.RowKit Wire Term Rig

set_option linter.unusedSimpArgs false
theorem ofText_len {s x : Tm} {e : Int} (h : ofText s = (x, e)) : x.length ≤ 4000 := by
  unfold ofText made at h
  split at h
  case isTrue hr => injection h with h1 h2; rw [← h1]; exact (right_len hr).2
  case isFalse => injection h with h1 h2; rw [← h1]; simp
end Go.Proofs.YtlkgjceddbclpaaGreat.Mta

namespace Go.Proofs.YtlkgjceddbclpaaGreat.Mta
open Go.RowKit Wire Term Rig

def Apt (w : World) (V : Option Addr) (nv : Nat) (A : Option Addr) (B : Option Addr) (K : Option Addr) : Prop := ∀ b off, V = some ⟨b, off, none⟩ → 0 < nv →
  b < w.heap.size ∧ (∀ j, w.frozen? ⟨b, j, none⟩ = false) ∧ (∀ b' off', A = some ⟨b', off', none⟩ → b' ≠ b) ∧ (∀ b' off', B = some ⟨b', off', none⟩ → b' ≠ b) ∧ (∀ b' off', K = some ⟨b', off', none⟩ → b' ≠ b)
def SepM (w : World) (v : Value) : Prop := ∀ (o f sig : ByteArray) (ep ver : Int) (A : Option Addr) (n c : Nat) (B : Option Addr) (m d : Nat) (V : Option Addr) (nv cv : Nat) (K : Option Addr) (nk ck : Nat),
  v = .agg #[.string o, .string f, .int .i64 ep, .slice A n c, .slice B m d, .int .u64 ver, .slice V nv cv, .slice K nk ck, .string sig] → Apt w V nv A B K ∧ Apt w K nk A B V
def Mb (gs : List Nat) (x : Mt × Int) (e : Ending) (w' : World) : Prop := ∃ v, IsM (Off gs) w' v x.1 ∧ SepM w' v ∧ e = .returned (.tuple #[v, .int .i64 x.2])
abbrev AnyB : Nat → Prop := fun _ => True
def MTakeOK : Prop := ∀ (gs : List Nat) (s : ByteArray) (w : World), (∀ g ∈ gs, g < w.heap.size) → s.size ≤ 10000 → Calls Tryz.prog 28 #[.string s] w fun e w' => Me (Off gs) (takeM s.data.toList) e w' ∧ Below w.heap.size w w'
def MCheckOK : Prop := ∀ (v : Value) (m : Mt) (p o f : ByteArray) (w : World), IsM AnyB w v m → FewM m → p.size ≤ 10000 → o.size ≤ 10000 → f.size ≤ 10000 → Calls Tryz.prog 34 #[v, .string p, .string o, .string f] w fun e w' => e = .returned (.int .i64 (checkM m p.data.toList o.data.toList f.data.toList)) ∧ Below w.heap.size w w'
def MBuildOK : Prop := ∀ (gs : List Nat) (secret : ByteArray) (vr : Value) (r : Rt) (ver : Nat) (root : ByteArray) (S : Option Addr) (cs : Nat) (ss : List ByteArray) (K : Option Addr) (ck : Nat) (ks : List (ByteArray × ByteArray)) (w : World),
  (∀ g ∈ gs, g < w.heap.size) → IsX (Off gs) w vr r → Few r → ver < 18446744073709551616 → secret.size ≤ 10000 → root.size ≤ 10000 →
  SReads w S ss → (ss.length ≤ cs ∧ (S = none → cs = 0)) → ss.length ≤ 40 → (∀ s ∈ ss, s.size ≤ 10000) →
  PReads w K ks → (ks.length ≤ ck ∧ (K = none → ck = 0)) → ks.length ≤ 40 → (∀ k ∈ ks, k.1.size ≤ 10000 ∧ k.2.size ≤ 10000) →
  Calls Tryz.prog 18 #[.string secret, vr, .int .u64 (ver : Int), .string root, .slice S ss.length cs, .slice K ks.length ck] w fun e w' =>
    Mb gs (build secret.data.toList r ver root.data.toList (bl ss) (pl ks)) e w' ∧ Below w.heap.size w w'
theorem IsM.any {ok : Nat → Prop} {w : World} {v : Value} {m : Mt} (h : IsM ok w v m) : IsM AnyB w v m := h.mono fun _ _ _ => trivial
end Go.Proofs.YtlkgjceddbclpaaGreat.Mta

