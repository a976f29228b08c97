/-
  TWO STORES SIDE BY SIDE: the program's and the document's. By an AI agent; no person has read it.
-/
import Derived.Test.YtamkepfhlfeiiaaKHelp
import Derived.Test.YtamkepfhlfeiiaaPPut
namespace Go.Proofs.Ytamkepfhlfeiiaa.Sto
open Go Go.RowKit Wire

set_option linter.unusedVariables false
structure Keeps (D : DPred) : Prop where
  old : ∀ {w : World} {a : Addr} {X : Nat → Prop} {s : Stt}, D w a X s → ∀ b, X b → b < w.heap.size
  keep : ∀ {w w' : World} {a : Addr} {X : Nat → Prop} {s : Stt}, D w a X s → w.heap.size ≤ w'.heap.size → (∀ b, X b → w'.heap[b]? = w.heap[b]?) → D w' a X s
theorem StoreOK.ks {D : DPred} (d : StoreOK D) : Keeps D := ⟨d.old, d.keep⟩
theorem drk : Keeps DR := ⟨dr_old, dr_keep⟩
section
variable {D E : DPred} {w0 w : World} {a : Addr} {X : Nat → Prop} {s : Stt}
theorem Sts.belowK (d : Keeps D) (h : Sts D w0 w a X s) {w1 : World} (hb : Below w.heap.size w w1) : Sts D w0 w1 a X s := ⟨d.keep h.d hb.size fun b hx => hb.block b (d.old h.d b hx), h.x, h.f, bel_call h.b hb⟩
theorem Sts.besideK (d : Keeps E) {b : Addr} {Y X' : Nat → Prop} {t : Stt} {w1 : World} (h : Sts E w0 w b Y t) (hs : Sts D w0 w a X s) (hn : Nx X X' w w1) (hd : ∀ g, Y g → ¬ X g) : Sts E w0 w1 b Y t ∧ ∀ g, Y g → ¬ X' g :=
  ⟨⟨d.keep h.d hn.fr.size fun g hy => hn.fr.block g (d.old h.d g hy) (hd g hy), h.x, h.f, hn.fr.below h.b hs.x⟩, fun g hy hx => by
    rcases hn.x g hx with h1 | h1
    · exact hd g hy h1
    · have := d.old h.d g hy; omega⟩
theorem Sts.lift {w' : World} (h : Sts D w w' a X s) (hb : Below w0.heap.size w0 w) : Sts D w0 w' a X s := ⟨h.d, fun b hx => Nat.le_trans hb.size (h.x b hx), h.f, bel_call hb h.b⟩
theorem sr_new (hb : Below w0.heap.size w0 w) : Calls Try.prog 26 #[] w fun e w' => ∃ (a : Addr) (X : Nat → Prop), e = .returned (.pointer (some a)) ∧ Sts DR w0 w' a X s0 ∧ (∀ b, X b → w.heap.size ≤ b) ∧ Below w.heap.size w w' :=
  (newr_c w).mono fun e w' h => by
    obtain ⟨a, X, h1, h2, h3, h4⟩ := h
    exact ⟨a, X, h1, ⟨h2, fun b hx => Nat.le_trans hb.size (h3 b hx), fine0, bel_call hb h4⟩, h3, h4⟩
theorem sr_put (h : Sts DR w0 w a X s) {K B : ByteArray} {k b : Tm} (hk : K.data.toList = k) (hb : B.data.toList = b) (h1 : K.size ≤ 140737488351232) (h2 : B.size ≤ 140737488351232) : Calls Try.prog 29 #[.pointer (some a), .string K, .string B] w fun e w' => e = .returned (.int .i64 (putE s k b)) ∧ ∃ X', Sts DR w0 w' a X' (putS s k b) ∧ Nx X X' w w' :=
  (putr_c a X s K B w h.d h.f h1 h2).mono fun e w' hh => by
    obtain ⟨e1, ⟨X', e2, e3⟩, e4⟩ := hh
    rw [hk, hb] at e1 e2
    refine ⟨e1, X', ⟨e2, fun b hx => ?_, fine_put h.f _ _, e4.below h.b h.x⟩, e4, e3⟩
    rcases e3 b hx with h5 | h5
    · exact h.x b h5
    · exact Nat.le_trans h.b.size h5
theorem sr_del (h : Sts DR w0 w a X s) {K : ByteArray} {k : Tm} (hk : K.data.toList = k) : Calls Try.prog 28 #[.pointer (some a), .string K] w fun e w' => e = .returned (.int .i64 (delE s k)) ∧ ∃ X', Sts DR w0 w' a X' (delS s k) ∧ Nx X X' w w' :=
  (delr_c a X s K w h.d h.f).mono fun e w' hh => by
    obtain ⟨e1, ⟨X', e2, e3⟩, e4⟩ := hh
    rw [hk] at e1 e2
    refine ⟨e1, X', ⟨e2, fun b hx => ?_, fine_del h.f _, e4.below h.b h.x⟩, e4, e3⟩
    rcases e3 b hx with h5 | h5
    · exact h.x b h5
    · exact Nat.le_trans h.b.size h5
end
end Go.Proofs.Ytamkepfhlfeiiaa.Sto
