/-
  WHAT THE CODE OF package store IS HELD TO: a store behind a pointer, whatever it is made of. By an AI agent; no person has read it.
-/
import Derived.Test.YtamkepfhlfeiiaaSPure
namespace Go.Proofs.Ytamkepfhlfeiiaa.Sto
open Go.RowKit Wire

set_option linter.unusedVariables false

/-- In this world, behind this address: a store, that lies in blocks X. -/
abbrev DPred := World → Addr → (Nat → Prop) → Stt → Prop
/-- Of what was there blocks X alone may have turned. -/
structure Fr (X : Nat → Prop) (w w' : World) : Prop where
  os : w'.os = w.os
  tape : w'.tape = w.tape
  output : w'.output = w.output
  size : w.heap.size ≤ w'.heap.size
  block : ∀ b, b < w.heap.size → ¬ X b → w'.heap[b]? = w.heap[b]?
theorem Fr.below {X : Nat → Prop} {w0 w w' : World} (h : Fr X w w') (hb : Below w0.heap.size w0 w) (hX : ∀ b, X b → w0.heap.size ≤ b) : Below w0.heap.size w0 w' :=
  ⟨h.os.trans hb.os, h.tape.trans hb.tape, h.output.trans hb.output, Nat.le_trans hb.size h.size, fun b hlt => (h.block b (Nat.lt_of_lt_of_le hlt hb.size) fun hx => by have := hX b hx; omega).trans (hb.block b hlt)⟩
/-- A row of one's own, as an answer. -/
def Row (w w' : World) (x : List Tm) (e : Ending) : Prop := ∃ (v : Value) (zs : List ByteArray), bl zs = x ∧ w'.ownsRow w.heap.size 9 1 v zs.length (sv zs) ∧ e = .returned v
def Sr (x : Tm × Int) (e : Ending) : Prop := ∃ T : ByteArray, T.data.toList = x.1 ∧ e = .returned (.tuple #[.string T, .int .i64 x.2])
structure StoreOK (D : DPred) : Prop where
  old : ∀ {w : World} {a : Addr} {X : Nat → Prop} {s : Stt}, D w a X s → ∀ b, X b → b < w.heap.size
  keep : ∀ {w w' : World} {a : Addr} {X : Nat → Prop} {s : Stt}, D w a X s → w.heap.size ≤ w'.heap.size → (∀ b, X b → w'.heap[b]? = w.heap[b]?) → D w' a X s
  new : ∀ (w : World), Calls Try.prog 23 #[] w fun e w' => ∃ (a : Addr) (X : Nat → Prop), e = .returned (.pointer (some a)) ∧ D w' a X s0 ∧ (∀ b, X b → w.heap.size ≤ b) ∧ Below w.heap.size w w'
  put : ∀ (a : Addr) (X : Nat → Prop) (s : Stt) (K B : ByteArray) (w : World), D w a X s → Fine s → K.size ≤ 140737488351232 → B.size ≤ 140737488351232 → Calls Try.prog 25 #[.pointer (some a), .string K, .string B] w fun e w' => e = .returned (.int .i64 (putE s K.data.toList B.data.toList)) ∧ (∃ X', D w' a X' (putS s K.data.toList B.data.toList) ∧ ∀ b, X' b → X b ∨ w.heap.size ≤ b) ∧ Fr X w w'
  del : ∀ (a : Addr) (X : Nat → Prop) (s : Stt) (K : ByteArray) (w : World), D w a X s → Fine s → K.size ≤ 140737488351232 → Calls Try.prog 27 #[.pointer (some a), .string K] w fun e w' => e = .returned (.int .i64 (delE s K.data.toList)) ∧ (∃ X', D w' a X' (delS s K.data.toList) ∧ ∀ b, X' b → X b ∨ w.heap.size ≤ b) ∧ Fr X w w'
  get : ∀ (a : Addr) (X : Nat → Prop) (s : Stt) (K : ByteArray) (w : World), D w a X s → Fine s → K.size ≤ 140737488351232 → Calls Try.prog 22 #[.pointer (some a), .string K] w fun e w' => Sr (getS s K.data.toList) e ∧ Below w.heap.size w w'
  list : ∀ (a : Addr) (X : Nat → Prop) (s : Stt) (K : ByteArray) (w : World), D w a X s → Fine s → K.size ≤ 140737488351232 → Calls Try.prog 24 #[.pointer (some a), .string K] w fun e w' => (∃ l, Lists s K.data.toList l ∧ Row w w' l e) ∧ Below w.heap.size w w'
  vers : ∀ (a : Addr) (X : Nat → Prop) (s : Stt) (K : ByteArray) (w : World), D w a X s → Fine s → K.size ≤ 140737488351232 → Calls Try.prog 19 #[.pointer (some a), .string K] w fun e w' => Row w w' (s.ver K.data.toList) e ∧ Below w.heap.size w w'
  puts : ∀ (a : Addr) (X : Nat → Prop) (s : Stt) (w : World), D w a X s → Fine s → Calls Try.prog 20 #[.pointer (some a)] w fun e w' => e = .returned (.int .i64 (s.n : Int)) ∧ Below w.heap.size w w'
theorem StoreOK.below {D : DPred} (d : StoreOK D) {w w' : World} {a : Addr} {X : Nat → Prop} {s : Stt} (h : D w a X s) (hb : Below w.heap.size w w') : D w' a X s := d.keep h hb.size fun b hx => hb.block b (d.old h b hx)
theorem StoreOK.beside {D : DPred} (d : StoreOK D) {w w' : World} {a : Addr} {X Y : Nat → Prop} {s : Stt} (h : D w a Y s) (hf : Fr X w w') (hd : ∀ b, Y b → ¬ X b) : D w' a Y s := d.keep h hf.size fun b hy => hf.block b (d.old h b hy) (hd b hy)
/-- A row that lies beside a store. -/
def Off (X : Nat → Prop) (A : Option Addr) : Prop := ∀ b off, A = some ⟨b, off, none⟩ → ¬ X b
theorem SReads.fr {X : Nat → Prop} {w w' : World} {A : Option Addr} {ys : List ByteArray} (h : SReads w A ys) (hf : Fr X w w') (hd : Off X A) : SReads w' A ys := fun j hj => by
  obtain ⟨b, off, e, hlt, hc⟩ := h j hj
  exact ⟨b, off, e, Nat.lt_of_lt_of_le hlt hf.size, (World.cell?_of_block (w := w) (a := ⟨b, off + j, none⟩) (hf.block b hlt (hd b off e))).trans hc⟩
theorem own_fresh {w : World} {base : Nat} {e : TypeId} {a : Option Addr} {n c : Nat} {xs : List Value} (h : w.ownsRow base e 1 (.slice a n c) n xs) : ∀ b off, a = some ⟨b, off, none⟩ → base ≤ b := by
  rintro b off rfl
  rcases h.2 with ⟨hv, _⟩ | ⟨g, cap, cur, hv, hg, _⟩
  · injection hv with h1; cases h1
  · injection hv with h1
    injection h1 with h1
    injection h1 with h1
    subst h1
    exact hg
/-- A row that was told: its blocks are new ones. -/
theorem row_open {w w' : World} {x : List Tm} {e : Ending} (h : Row w w' x e) : ∃ (A : Option Addr) (c : Nat) (ys : List ByteArray), bl ys = x ∧ (ys.length ≤ c ∧ c ≤ 9223372036854775807) ∧ SReads w' A ys ∧ (∀ b off, A = some ⟨b, off, none⟩ → w.heap.size ≤ b ∧ b < w'.heap.size) ∧ w'.ownsRow w.heap.size 9 1 (.slice A ys.length c) ys.length (sv ys) ∧ e = .returned (.slice A ys.length c) := by
  obtain ⟨v, ys, h1, h2, rfl⟩ := h
  obtain ⟨A, c, rfl⟩ := own_value h2
  obtain ⟨h3, _, h4⟩ := sreads_own h2
  refine ⟨A, c, ys, h1, ⟨h4, ?_⟩, h3, (fun b off e => ⟨own_fresh h2 b off e, by subst e; exact (h2.lt b rfl).2⟩), h2, rfl⟩
  rcases h2.2 with ⟨hv, _⟩ | ⟨g, cap, cur, hv, _, _, _, hm, _⟩
  · injection hv with _ _ e3; rw [e3]; omega
  · injection hv with _ _ e3; rw [e3]; exact hm
/-- A store as a law holds it, of the world w0 on. -/
structure Sts (D : DPred) (w0 w : World) (a : Addr) (X : Nat → Prop) (s : Stt) : Prop where
  d : D w a X s
  x : ∀ b, X b → w0.heap.size ≤ b
  f : Fine s
  b : Below w0.heap.size w0 w
theorem bel_call {w0 w1 w2 : World} (h : Below w0.heap.size w0 w1) (h2 : Below w1.heap.size w1 w2) : Below w0.heap.size w0 w2 := h.trans (h2.mono h.size)
/-- What a change of a store leaves of the rest. -/
structure Nx (X X' : Nat → Prop) (w w' : World) : Prop where
  fr : Fr X w w'
  x : ∀ b, X' b → X b ∨ w.heap.size ≤ b
section
variable {D : DPred} {w0 w : World} {a : Addr} {X : Nat → Prop} {s : Stt}
theorem Sts.below (d : StoreOK D) (h : Sts D w0 w a X s) {w1 : World} (hb : Below w.heap.size w w1) : Sts D w0 w1 a X s := ⟨d.below h.d hb, h.x, h.f, bel_call h.b hb⟩
theorem st_new (d : StoreOK D) (hb : Below w0.heap.size w0 w) : Calls Try.prog 23 #[] w fun e w' => ∃ (a : Addr) (X : Nat → Prop), e = .returned (.pointer (some a)) ∧ Sts D w0 w' a X s0 ∧ (∀ b, X b → w.heap.size ≤ b) ∧ Below w.heap.size w w' :=
  (d.new w).mono fun e w' h => by
    obtain ⟨a, X, h1, h2, h3, h4⟩ := h
    exact ⟨a, X, h1, ⟨h2, fun b hx => Nat.le_trans hb.size (h3 b hx), fine0, bel_call hb h4⟩, h3, h4⟩
theorem st_put (d : StoreOK D) (h : Sts D w0 w a X s) {K B : ByteArray} {k b : Tm} (hk : K.data.toList = k) (hb : B.data.toList = b) (h1 : K.size ≤ 140737488351232) (h2 : B.size ≤ 140737488351232) : Calls Try.prog 25 #[.pointer (some a), .string K, .string B] w fun e w' => e = .returned (.int .i64 (putE s k b)) ∧ ∃ X', Sts D w0 w' a X' (putS s k b) ∧ Nx X X' w w' :=
  (d.put a X s K B w h.d h.f h1 h2).mono fun e w' hh => by
    obtain ⟨e1, ⟨X', e2, e3⟩, e4⟩ := hh
    rw [hk, hb] at e1 e2
    refine ⟨e1, X', ⟨e2, fun b hx => ?_, fine_put h.f _ _, e4.below h.b h.x⟩, e4, e3⟩
    rcases e3 b hx with h5 | h5
    · exact h.x b h5
    · exact Nat.le_trans h.b.size h5
theorem st_del (d : StoreOK D) (h : Sts D w0 w a X s) {K : ByteArray} {k : Tm} (hk : K.data.toList = k) (h1 : K.size ≤ 140737488351232) : Calls Try.prog 27 #[.pointer (some a), .string K] w fun e w' => e = .returned (.int .i64 (delE s k)) ∧ ∃ X', Sts D w0 w' a X' (delS s k) ∧ Nx X X' w w' :=
  (d.del a X s K w h.d h.f h1).mono fun e w' hh => by
    obtain ⟨e1, ⟨X', e2, e3⟩, e4⟩ := hh
    rw [hk] at e1 e2
    refine ⟨e1, X', ⟨e2, fun b hx => ?_, fine_del h.f _, e4.below h.b h.x⟩, e4, e3⟩
    rcases e3 b hx with h5 | h5
    · exact h.x b h5
    · exact Nat.le_trans h.b.size h5
theorem st_get (d : StoreOK D) (h : Sts D w0 w a X s) {K : ByteArray} {k : Tm} (hk : K.data.toList = k) (h1 : K.size ≤ 140737488351232) : Calls Try.prog 22 #[.pointer (some a), .string K] w fun e w' => Sr (getS s k) e ∧ Below w.heap.size w w' := by
  have := d.get a X s K w h.d h.f h1
  rw [hk] at this
  exact this
theorem st_puts (d : StoreOK D) (h : Sts D w0 w a X s) : Calls Try.prog 20 #[.pointer (some a)] w fun e w' => e = .returned (.int .i64 (s.n : Int)) ∧ Below w.heap.size w w' := d.puts a X s w h.d h.f
/-- A row that was told by a store. -/
def Told (w0 w : World) (X : Nat → Prop) (x : List Tm) (e : Ending) : Prop := ∃ (A : Option Addr) (c : Nat) (ys : List ByteArray), bl ys = x ∧ (ys.length ≤ c ∧ c ≤ 9223372036854775807) ∧ SReads w A ys ∧ (∀ b off, A = some ⟨b, off, none⟩ → w0.heap.size ≤ b ∧ b < w.heap.size ∧ ¬ X b) ∧ e = .returned (.slice A ys.length c)
theorem told_of {w1 w' : World} (d : StoreOK D) (h : Sts D w0 w1 a X s) {x : List Tm} {e : Ending} (hr : Row w1 w' x e) : Told w0 w' X x e := by
  obtain ⟨A, c, ys, h1, h2, h3, h4, _, rfl⟩ := row_open hr
  exact ⟨A, c, ys, h1, h2, h3, fun b off e => ⟨Nat.le_trans h.b.size (h4 b off e).1, (h4 b off e).2, fun hx => by have := d.old h.d b hx; have := (h4 b off e).1; omega⟩, rfl⟩
theorem st_vers (d : StoreOK D) (h : Sts D w0 w a X s) {K : ByteArray} {k : Tm} (hk : K.data.toList = k) (h1 : K.size ≤ 140737488351232) : Calls Try.prog 19 #[.pointer (some a), .string K] w fun e w' => Told w0 w' X (s.ver k) e ∧ Below w.heap.size w w' := by
  have := d.vers a X s K w h.d h.f h1
  rw [hk] at this
  exact this.mono fun e w' hh => ⟨told_of d h hh.1, hh.2⟩
theorem st_list (d : StoreOK D) (h : Sts D w0 w a X s) {K : ByteArray} {k : Tm} (hk : K.data.toList = k) (h1 : K.size ≤ 140737488351232) : Calls Try.prog 24 #[.pointer (some a), .string K] w fun e w' => (∃ l, Lists s k l ∧ Told w0 w' X l e) ∧ Below w.heap.size w w' := by
  have := d.list a X s K w h.d h.f h1
  rw [hk] at this
  exact this.mono fun e w' hh => by
    obtain ⟨⟨l, h2, h3⟩, h4⟩ := hh
    exact ⟨⟨l, h2, told_of d h h3⟩, h4⟩
/-- A row beside a store: it stands whatever comes. -/
structure RowO (w0 w : World) (X : Nat → Prop) (A : Option Addr) (ys : List ByteArray) : Prop where
  r : SReads w A ys
  o : ∀ b off, A = some ⟨b, off, none⟩ → w0.heap.size ≤ b ∧ b < w.heap.size ∧ ¬ X b
theorem RowO.below {A : Option Addr} {ys : List ByteArray} (h : RowO w0 w X A ys) {w1 : World} (hb : Below w.heap.size w w1) : RowO w0 w1 X A ys := ⟨h.r.below hb (Nat.le_refl _), fun b off e => ⟨(h.o b off e).1, Nat.lt_of_lt_of_le (h.o b off e).2.1 hb.size, (h.o b off e).2.2⟩⟩
theorem RowO.next {A : Option Addr} {ys : List ByteArray} (h : RowO w0 w X A ys) {X' : Nat → Prop} {w1 : World} (hn : Nx X X' w w1) : RowO w0 w1 X' A ys := ⟨SReads.fr h.r hn.fr (fun b off e => (h.o b off e).2.2), fun b off e => ⟨(h.o b off e).1, Nat.lt_of_lt_of_le (h.o b off e).2.1 hn.fr.size, fun hx => by
  rcases hn.x b hx with h1 | h1
  · exact (h.o b off e).2.2 h1
  · have := (h.o b off e).2.1; omega⟩⟩
/-- Another store beside a change of one. -/
theorem Sts.beside (d : StoreOK D) {b : Addr} {Y X' : Nat → Prop} {t : Stt} {w1 : World} (h : Sts D w0 w b Y t) (hs : Sts D w0 w a X s) (hn : Nx X X' w w1) (hd : ∀ g, Y g → ¬ X g) : Sts D w0 w1 b Y t ∧ ∀ g, Y g → ¬ X' g :=
  ⟨⟨d.beside h.d hn.fr hd, h.x, h.f, hn.fr.below h.b hs.x⟩, fun g hy hx => by
    rcases hn.x g hx with h1 | h1
    · exact hd g hy h1
    · have := d.old h.d g hy; omega⟩
end
end Go.Proofs.Ytamkepfhlfeiiaa.Sto
