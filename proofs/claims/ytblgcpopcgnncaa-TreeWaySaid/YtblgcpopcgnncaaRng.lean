/-
  OF NO PROGRAM: a range over a function whose rounds make memory of their own, over an iterator that is itself a range over a function: what an iterator keeps of its own (IterOK), and the loop (range_law). By an AI agent; no person has read it.
-/
import Derived.RangeFuncNested
import Derived.RangeFuncBound
import Derived.RangeFuncCalls
import Derived.RangeFuncLeaves
import Derived.RangeFuncRecord
import Derived.RangeFuncFrom
namespace Go.Proofs.Ytblgcpopcgnncaa.Tre
open Go Go.RowKit

/-- What lies from B on, ahead of m, is as it was. -/
structure Keeps (B m : Nat) (A C : World) : Prop where
  size : A.heap.size ≤ C.heap.size
  same : ∀ k, B ≤ k → k < m → C.heap[k]? = A.heap[k]?

theorem Keeps.refl (B m : Nat) (A : World) : Keeps B m A A := ⟨Nat.le_refl _, fun _ _ _ => rfl⟩
theorem Keeps.trans {B m : Nat} {A C D : World} (h : Keeps B m A C) (k : Keeps B m C D) : Keeps B m A D :=
  ⟨Nat.le_trans h.size k.size, fun i h1 h2 => (k.same i h1 h2).trans (h.same i h1 h2)⟩
theorem Keeps.mono {B B' m : Nat} {A C : World} (h : Keeps B m A C) (hB : B ≤ B') : Keeps B' m A C := ⟨h.size, fun k h1 h2 => h.same k (by omega) h2⟩
theorem Keeps.less {B m m' : Nat} {A C : World} (h : Keeps B m A C) (hm : m' ≤ m) : Keeps B m' A C := ⟨h.size, fun k h1 h2 => h.same k h1 (by omega)⟩
theorem Keeps.of_below {B m : Nat} {A C : World} (h : Below A.heap.size A C) (hm : m ≤ A.heap.size) : Keeps B m A C :=
  ⟨h.size, fun i _ h2 => h.block i (by omega)⟩
theorem Keeps.cell {B m : Nat} {A C : World} (h : Keeps B m A C) {p : Addr} (h1 : B ≤ p.block) (h2 : p.block < m) : C.cell? p = A.cell? p :=
  World.cell?_of_block (h.same p.block h1 h2)

/-- An iterator that hands out these, one by one: each round keeps what the iterator has laid (from its call on, up to m, a number that is its heap's size ahead of the first round), and the caller's word J. -/
def IterOK {α : Type} (P : Program) (g : Nat) (lb : Array Value) (encs : α → Array Value) (xs : List α) (w : World) : Prop :=
  ∀ (l : Nat) (J : Nat → List α → World → Prop) (Jx : List α → World → Prop) (W : World), Below w.heap.size w W →
    (∀ m, OwnFrom W.heap.size (J m)) → OwnFrom W.heap.size Jx → (∀ m ys A, J m ys A → m ≤ A.heap.size) →
    (∀ A, Below W.heap.size W A → J A.heap.size [] A) →
    (∀ m pre x W1, W.heap.size ≤ m → J m pre W1 → pre ++ [x] <+: xs → YieldAt Fence.wide 0 P l (encs x) W1 fun e W' =>
      (e = .returned (.bool true) ∧ J m (pre ++ [x]) W' ∧ Keeps W.heap.size m W1 W') ∨ (e = .returned (.bool false) ∧ Jx (pre ++ [x]) W' ∧ Keeps W.heap.size m W1 W')) →
    Calls P g (#[.func (.yield l) #[] #[]] ++ lb) W fun e W' => (∃ v, e = .returned v) ∧ ((∃ m, W.heap.size ≤ m ∧ J m xs W') ∨ (∃ pre, pre <+: xs ∧ Jx pre W'))

/-- How a round's body may be left. -/
def roundEnd {α : Type} (B m : Nat) (I : Nat → List α → World → Prop) (Ix : List α → World → Prop) (ys : List α) (W : World) : Exit → Act → World → Prop
  | .normal, _, W' => Keeps B m W W' ∧ I m ys W'
  | .ret, _, W' => Keeps B m W W' ∧ Ix ys W'
  | _, _, _ => False

theorem room_any (k : Nat) : Fence.wide.room k := fun d h => by cases h
theorem RoundIn.any {m m' : Nat} {P : Program} {l : Nat} {f : FuncId} {tmps : Array Value} {assign body : Code} {w : World} {R : Ending → World → Prop}
    (h : RoundIn Fence.wide m P l f tmps assign body w R) : RoundIn Fence.wide m' P l f tmps assign body w R := ⟨h.1, fun c cs _ => h.2 c cs (room_any _)⟩
theorem RoundIn.inR {m m' : Nat} {P : Program} {l : Nat} (l' : Nat) {f : FuncId} {tmps : Array Value} {assign body : Code} {w : World} {R : Ending → World → Prop}
    (h : RoundIn Fence.wide m P l f tmps assign body w R) : RoundIn (Fence.wide.inRound l') m' P l f tmps assign body w R := ⟨h.1, fun c cs _ => h.2 c cs (room_any _)⟩
theorem heap_put_other {w : World} {r k : Nat} {o : Obj} (h : k ≠ r) : (w.putObj r o).heap[k]? = w.heap[k]? := World.putObj_heap_other h

/-- The loop. -/
theorem range_law {α : Type} {P : Program} {n : Nat} {g : Operand} {ps : Array Tmp} {assign body : Code} {Q : Exit → Act → World → Prop} {a : Act} {w : World} {gf : Nat} {lb : Array Value}
    (hg : a.eval g = .func (.func gf) #[] lb) (eg : ∀ args w, (callFunc gf args).run P w = .ok (.enter gf args) w)
    {encs : α → Array Value} {xs : List α} {w0 : World} (hseq : IterOK P gf lb encs xs w0) (hb0 : Below w0.heap.size w0 w) (hps : ∀ x, (encs x).size = ps.size)
    (I : Nat → List α → World → Prop) (Ix : List α → World → Prop) (hI : ∀ m, OwnFrom w.heap.size (I m)) (hIx : OwnFrom w.heap.size Ix) (hIm : ∀ m ys A, I m ys A → m ≤ A.heap.size)
    (hI0 : ∀ A, Below w.heap.size w A → I A.heap.size [] A) (a₁ : α → Nat → Act) (blk : α → Obj)
    (hassign : ∀ (l : Nat) (x : α) (W : World) (K : Act → World → Prop), K (a₁ x W.heap.size) (W.alloc (blk x)) →
      assign.wpIn (Fence.wide.inRound l) 0 P (Exit.then K (fun _ _ _ => False)) { tmps := (ps.zip (encs x)).foldl (fun t (p, v) => t.setIfInBounds p v) a.tmps, defers := [] } W)
    (hbody : ∀ (l m : Nat) (pre : List α) (x : α) (b : Nat) (W : World), w.heap.size ≤ m → I m pre W → pre ++ [x] <+: xs → w.heap.size ≤ b → W.heap[b]? = some (blk x) →
      body.wpIn (Fence.wide.inRound l) 0 P (roundEnd w.heap.size m I Ix (pre ++ [x]) W) (a₁ x b) W)
    (hdone : ∀ (m : Nat) (W : World), w.heap.size + 2 ≤ m → I m xs W → W.heap[w.heap.size]? = some (.deferred (some [])) → Q .normal { a with defers := { target := .collected w.heap.size, args := #[] } :: a.defers } W)
    (hstop : ∀ (pre : List α) (W : World), pre <+: xs → Ix pre W → W.heap[w.heap.size]? = some (.deferred (some [])) → Code.ret.wpIn Fence.wide n P Q { a with defers := { target := .collected w.heap.size, args := #[] } :: a.defers } W) :
    (Code.rangeFunc g ps assign body).wpIn Fence.wide n P Q a w := by
  refine wpIn_rangeFunc ?_
  intro fn hfn
  rw [show Fence.wide.round = none from rfl]
  obtain ⟨rec, hrec⟩ : ∃ rec : LoopState → Option Code → Loop, rec = fun st pe => { state := st, pending := pe, fn, tmps := a.tmps, params := ps, assign, body, defers := w.heap.size } := ⟨_, rfl⟩
  obtain ⟨W1, hW1⟩ : ∃ W1, (w.alloc (.deferred (some []))).alloc (.loop (rec .ready none)) = W1 := ⟨_, rfl⟩
  have hsz : W1.heap.size = w.heap.size + 2 := by rw [← hW1]; simp
  have hL1 : W1.heap[w.heap.size + 1]? = some (.loop (rec .ready none)) := by
    rw [← hW1]; have := World.alloc_heap_new (w.alloc (.deferred (some []))) (.loop (rec .ready none)); rwa [World.size_alloc] at this
  have hK1 : W1.heap[w.heap.size]? = some (.deferred (some [])) := by
    rw [← hW1]; exact (Below.heap_alloc _ _ _ (by simp)).trans (World.alloc_heap_new w _)
  have hbw : Below w.heap.size w W1 := by
    rw [← hW1]; exact ((Below.refl _ w).alloc (Nat.le_refl _) _).alloc (by simp) _
  have hb1 : Below w0.heap.size w0 W1 := hb0.trans (hbw.mono hb0.size)
  have kept : ∀ {A B : World} {row : Option Nat} {k : Nat} {o : Obj}, k < W1.heap.size → A.grownBy B row → (∀ r, row = some r → W1.heap.size ≤ r ∧ ∃ o : Obj, A.heap[r]? = some o ∧ o.isCells = false) → A.heap[k]? = some o → B.heap[k]? = some o := fun {A B row k o} hk hg hr h =>
    (hg.block k (Array.getElem?_eq_some_iff.1 h).1 (fun e => by have := (hr k e.symm).1; omega)).trans h
  have hmore : ∀ {A : World} {row : Option Nat}, (∀ r, row = some r → W1.heap.size ≤ r ∧ ∃ o : Obj, A.heap[r]? = some o ∧ o.isCells = false) → (∀ r, row = some r → w.heap.size ≤ r ∧ ∃ o : Obj, A.heap[r]? = some o ∧ o.isCells = false) :=
    fun hr r e => ⟨by have := (hr r e).1; omega, (hr r e).2⟩
  refine ⟨w.heap.size + 1, [{ target := .collected w.heap.size, args := #[] }], W1, { target := .fn (.func gf) lb, args := #[.func (.yield (w.heap.size + 1)) #[] #[]] }, W1, gf,
    #[.func (.yield (w.heap.size + 1)) #[] #[]] ++ lb, W1, ?_, ?_, ?_, ?_, fun h => (by cases h), ?_⟩
  · rw [← hW1, hrec]; exact run_enterLoop_outer _ _ _ _ _
  · simp only [resolve, hg]
    simp [go_sem]
  · intro f' _; trivial
  · simp [invoke, go_sem, eg]
  · refine callsIn_wide.2 ((hseq (w.heap.size + 1)
      (fun m pre W => I m pre W ∧ W.heap[w.heap.size + 1]? = some (.loop (rec .ready none)) ∧ W.heap[w.heap.size]? = some (.deferred (some [])))
      (fun pre W => Ix pre W ∧ W.heap[w.heap.size + 1]? = some (.loop (rec .done (some .ret))) ∧ W.heap[w.heap.size]? = some (.deferred (some [])))
      W1 hb1
      (fun m s A B row hs hg' hr => ⟨hI m s A B row hs.1 hg' (hmore hr), kept (by omega) hg' hr hs.2.1, kept (by omega) hg' hr hs.2.2⟩)
      (fun s A B row hs hg' hr => ⟨hIx s A B row hs.1 hg' (hmore hr), kept (by omega) hg' hr hs.2.1, kept (by omega) hg' hr hs.2.2⟩)
      (fun m ys A h => hIm m ys A h.1)
      (fun A hA => ⟨hI0 A (hbw.trans (hA.mono (by omega))), (hA.block _ (by omega)).trans hL1, (hA.block _ (by omega)).trans hK1⟩)
      ?_).mono ?_)
    · rintro m pre x W hm ⟨hi, hl, hk⟩ hpre
      have hmW := hIm _ _ _ hi
      have hlt : w.heap.size + 1 < W.heap.size := (Array.getElem?_eq_some_iff.1 hl).1
      have hy := run_yield (P := P) (args := encs x) hl (by rw [hrec]; exact hps x)
      rw [hrec] at hy
      have hl1 : (W.alloc (blk x)).heap[w.heap.size + 1]? = some (.loop (rec .ready none)) := (Below.heap_alloc _ _ _ hlt).trans hl
      have hk1 : (W.alloc (blk x)).heap[w.heap.size]? = some (.deferred (some [])) := (Below.heap_alloc _ _ _ (by omega)).trans hk
      have hn1 : (W.alloc (blk x)).heap[W.heap.size]? = some (blk x) := World.alloc_heap_new _ _
      have hs1 : (W.alloc (blk x)).heap.size = W.heap.size + 1 := World.size_alloc _ _
      refine ⟨fn, _, assign, body, hy, roundIn_of_wpIn hfn (hassign _ x W _ ⟨_, run_beginRound hl1 (by rw [hrec]), ?_⟩)⟩
      have hi2 := (hI m).putObj (.loop { rec .ready none with state := .busy }) ((hI m).alloc (blk x) hi) (by omega) hl1 rfl
      obtain ⟨W2, hW2⟩ : ∃ W2, (W.alloc (blk x)).putObj (w.heap.size + 1) (.loop { rec .ready none with state := .busy }) = W2 := ⟨_, rfl⟩
      have hl2 : W2.heap[w.heap.size + 1]? = some (.loop { rec .ready none with state := .busy }) := by rw [← hW2]; exact World.putObj_heap_same (by omega)
      have hk2 : W2.heap[w.heap.size]? = some (.deferred (some [])) := by rw [← hW2]; exact (heap_put_other (by omega)).trans hk1
      have hn2 : W2.heap[W.heap.size]? = some (blk x) := by rw [← hW2]; exact (heap_put_other (by omega)).trans hn1
      have hs2 : W2.heap.size = W.heap.size + 1 := by rw [← hW2]; simp
      have ho2 : ∀ k, k < W.heap.size → k ≠ w.heap.size + 1 → W2.heap[k]? = W.heap[k]? := fun k h1 h2 => by
        rw [← hW2]; exact (heap_put_other h2).trans (Below.heap_alloc _ _ _ h1)
      rw [hW2] at hi2 ⊢
      refine wpIn_mono (hbody _ m pre x W.heap.size W2 (by omega) hi2 hpre (by omega) hn2) ?_
      have fin : ∀ (jump : Option Code) (W3 : World), Keeps w.heap.size m W2 W3 →
          (Instr.endRound (w.heap.size + 1) jump).run P W3 = .ok (.bool jump.isNone) (W3.putObj (w.heap.size + 1) (.loop (rec (if jump.isNone then .ready else .done) jump))) ∧
          W3.heap[w.heap.size + 1]? = some (.loop { rec .ready none with state := .busy }) ∧
          (W3.putObj (w.heap.size + 1) (.loop (rec (if jump.isNone then .ready else .done) jump))).heap[w.heap.size + 1]? = some (.loop (rec (if jump.isNone then .ready else .done) jump)) ∧
          (W3.putObj (w.heap.size + 1) (.loop (rec (if jump.isNone then .ready else .done) jump))).heap[w.heap.size]? = some (.deferred (some [])) ∧
          Keeps W1.heap.size m W (W3.putObj (w.heap.size + 1) (.loop (rec (if jump.isNone then .ready else .done) jump))) := fun jump W3 hk3 => by
        have hl3 := (hk3.same (w.heap.size + 1) (by omega) (by omega)).trans hl2
        have hd3 := (hk3.same w.heap.size (by omega) (by omega)).trans hk2
        have hs3 := hk3.size
        have := run_endRound (P := P) jump hl3
        rw [hrec] at this hl3 ⊢
        refine ⟨this, hl3, World.putObj_heap_same (by omega), (heap_put_other (by omega)).trans hd3, ⟨by rw [World.putObj_size]; omega, fun k h1 h2 => ?_⟩⟩
        rw [heap_put_other (by omega), hk3.same k (by omega) h2]
        exact ho2 k (by omega) (by omega)
      rintro e a3 W3 hp
      cases e with
      | normal =>
        obtain ⟨hk3, hi3⟩ := hp
        obtain ⟨hr, hl3, hl4, hk4, hkp⟩ := fin none W3 hk3
        exact ⟨_, _, hr, .inl ⟨rfl, ⟨(hI m).putObj _ hi3 (by omega) hl3 rfl, hl4, hk4⟩, hkp⟩⟩
      | ret =>
        obtain ⟨hk3, hi3⟩ := hp
        obtain ⟨hr, hl3, hl4, hk4, hkp⟩ := fin (some .ret) W3 hk3
        exact ⟨_, _, hr, .inr ⟨rfl, ⟨hIx.putObj _ hi3 (by omega) hl3 rfl, hl4, hk4⟩, hkp⟩⟩
      | exit id => exact hp.elim
      | goto t => exact hp.elim
      | panic ch => exact hp.elim
      | outgrown => exact hp.elim
    · rintro e W2 ⟨⟨v, rfl⟩, (⟨m, hm, hi, hl, hk⟩ | ⟨pre, hpre, hi, hl, hk⟩)⟩
      · exact ⟨none, _, by have := run_endLoop (P := P) hl (by rw [hrec]; simp); rw [hrec] at this; exact this, hdone m _ (by omega) ((hI m).putObj _ hi (by omega) hl rfl) ((heap_put_other (by omega)).trans hk)⟩
      · exact ⟨some .ret, _, by have := run_endLoop (P := P) hl (by rw [hrec]; simp); rw [hrec] at this; exact this, hstop pre _ hpre (hIx.putObj _ hi (by omega) hl rfl) ((heap_put_other (by omega)).trans hk)⟩
end Go.Proofs.Ytblgcpopcgnncaa.Tre
