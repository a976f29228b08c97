/-
  MMem. By an AI agent.
-/
import Derived.Test.YtlkgjceddbclpaaGreatEZ
import Derived.Test.YtlkgjceddbclpaaGreatEH1
import Derived.Test.YtlkgjceddbclpaaGreatEMPure
namespace Go.Proofs.YtlkgjceddbclpaaGreat.Mta
open Go.RowKit Wire Rig

def pl (ks : List (ByteArray × ByteArray)) : List (Tm × Tm) := ks.map fun k => (k.1.data.toList, k.2.data.toList)
theorem pl_len (ks : List (ByteArray × ByteArray)) : (pl ks).length = ks.length := by simp [pl]
theorem pl_get {ks : List (ByteArray × ByteArray)} {k : Nat} (hk : k < ks.length) : (pl ks).take (k + 1) = (pl ks).take k ++ [((ks.getD k default).1.data.toList, (ks.getD k default).2.data.toList)] := by
  have e : (pl ks)[k]? = some ((ks.getD k default).1.data.toList, (ks.getD k default).2.data.toList) := by
    unfold pl
    rw [List.getElem?_map, List.getElem?_eq_getElem hk]
    simp [List.getD, hk]
  rw [List.take_add_one, e]; rfl
def PReads (w : World) (a : Option Addr) (ks : List (ByteArray × ByteArray)) : Prop := ∀ j < ks.length, ∃ b off, a = some ⟨b, off, none⟩ ∧ b < w.heap.size ∧ w.cell? ⟨b, off + j * 2, none⟩ = some (.string (ks.getD j default).1) ∧ w.cell? ⟨b, off + j * 2 + 1, none⟩ = some (.string (ks.getD j default).2)
theorem PReads.nil (w : World) (a : Option Addr) : PReads w a [] := fun j hj => by simp at hj
theorem PReads.below {w w' : World} {a : Option Addr} {ks : List (ByteArray × ByteArray)} {B : Nat} (h : PReads w a ks) (hb : Below B w w') (hB : w.heap.size ≤ B) : PReads w' a ks := fun j hj => by
  obtain ⟨b, off, e, hl, h1, h2⟩ := h j hj
  have hlB := Nat.lt_of_lt_of_le hl hB
  exact ⟨b, off, e, Nat.lt_of_lt_of_le hl hb.size, (hb.cell (p := ⟨b, off + j * 2, none⟩) hlB).trans h1, (hb.cell (p := ⟨b, off + j * 2 + 1, none⟩) hlB).trans h2⟩
theorem preads_lt {w : World} {A : Option Addr} {ks : List (ByteArray × ByteArray)} (h : PReads w A ks) {b off : Nat} (e : A = some ⟨b, off, none⟩) (h0 : 0 < ks.length) : b < w.heap.size := by
  obtain ⟨b2, off2, e2, hlt, _⟩ := h 0 h0
  rw [e] at e2
  injection e2 with e2
  injection e2 with e3 _ _
  omega
theorem preads_setL {w : World} {A : Option Addr} {ks : List (ByteArray × ByteArray)} (h : PReads w A ks) {R j : Nat} {v : Value} (hR : ∀ b off, A = some ⟨b, off, none⟩ → 0 < ks.length → b ≠ R) : PReads (w.setCell ⟨R, j, none⟩ v) A ks := fun i hi => by
  obtain ⟨b, off, e, hb, h1, h2⟩ := h i hi
  have n : ∀ q, (⟨R, j, none⟩ : Addr) ≠ ⟨b, q, none⟩ := fun q e2 => hR b off e (by omega) (by injection e2 with e3 _ _; exact e3.symm)
  exact ⟨b, off, e, by simpa [World.setCell] using hb, (World.cell?_setCell_other w _ _ v (n _)).trans h1, (World.cell?_setCell_other w _ _ v (n _)).trans h2⟩
def IsM (ok : Nat → Prop) (w : World) (v : Value) (m : Mt) : Prop := ∃ (o f sig : ByteArray) (A : Option Addr) (c : Nat) (rs : List ByteArray) (B : Option Addr) (d : Nat) (ws : List ByteArray) (V : Option Addr) (cv : Nat) (vs : List ByteArray) (K : Option Addr) (ck : Nat) (ks : List (ByteArray × ByteArray)),
  v = .agg #[.string o, .string f, .int .i64 m.r.ep, .slice A rs.length c, .slice B ws.length d, .int .u64 (m.ver : Int), .slice V vs.length cv, .slice K ks.length ck, .string sig] ∧
  m = ⟨⟨o.data.toList, f.data.toList, m.r.ep, bl rs, bl ws⟩, m.ver, bl vs, pl ks, sig.data.toList⟩ ∧
  SReads w A rs ∧ SReads w B ws ∧ SReads w V vs ∧ PReads w K ks ∧ (rs.length ≤ c ∧ (A = none → c = 0)) ∧ (ws.length ≤ d ∧ (B = none → d = 0)) ∧ (vs.length ≤ cv ∧ (V = none → cv = 0)) ∧ (ks.length ≤ ck ∧ (K = none → ck = 0)) ∧
  (∀ b off, A = some ⟨b, off, none⟩ → 0 < rs.length → ok b) ∧ (∀ b off, B = some ⟨b, off, none⟩ → 0 < ws.length → ok b) ∧ (∀ b off, V = some ⟨b, off, none⟩ → 0 < vs.length → ok b) ∧ (∀ b off, K = some ⟨b, off, none⟩ → 0 < ks.length → ok b)
theorem IsM.below {ok : Nat → Prop} {w w' : World} {B : Nat} {v : Value} {m : Mt} (h : IsM ok w v m) (hb : Below B w w') (hB : w.heap.size ≤ B) : IsM ok w' v m := by
  obtain ⟨o, f, sig, A, c, rs, B', d, ws, V, cv, vs, K, ck, ks, h1, h2, h3, h4, h5, h6, h7⟩ := h
  exact ⟨o, f, sig, A, c, rs, B', d, ws, V, cv, vs, K, ck, ks, h1, h2, h3.below hb hB, h4.below hb hB, h5.below hb hB, h6.below hb hB, h7⟩
theorem IsM.mono {ok ok' : Nat → Prop} {w : World} {v : Value} {m : Mt} (h : IsM ok w v m) (hk : ∀ b, b < w.heap.size → ok b → ok' b) : IsM ok' w v m := by
  obtain ⟨o, f, sig, A, c, rs, B', d, ws, V, cv, vs, K, ck, ks, h1, h2, h3, h4, h5, h6, h7, h8, h9, h10, k1, k2, k3, k4⟩ := h
  exact ⟨o, f, sig, A, c, rs, B', d, ws, V, cv, vs, K, ck, ks, h1, h2, h3, h4, h5, h6, h7, h8, h9, h10, fun b off e h0 => hk b (sreads_lt h3 e h0) (k1 b off e h0), fun b off e h0 => hk b (sreads_lt h4 e h0) (k2 b off e h0), fun b off e h0 => hk b (sreads_lt h5 e h0) (k3 b off e h0), fun b off e h0 => hk b (preads_lt h6 e h0) (k4 b off e h0)⟩
theorem isM_zero (ok : Nat → Prop) (w : World) : IsM ok w (.agg #[.string ⟨#[]⟩, .string ⟨#[]⟩, .int .i64 0, .slice none 0 0, .slice none 0 0, .int .u64 0, .slice none 0 0, .slice none 0 0, .string ⟨#[]⟩]) mzero :=
  ⟨⟨#[]⟩, ⟨#[]⟩, ⟨#[]⟩, none, 0, [], none, 0, [], none, 0, [], none, 0, [], rfl, rfl, SReads.nil _ _, SReads.nil _ _, SReads.nil _ _, PReads.nil _ _, ⟨Nat.le_refl _, fun _ => rfl⟩, ⟨Nat.le_refl _, fun _ => rfl⟩, ⟨Nat.le_refl _, fun _ => rfl⟩, ⟨Nat.le_refl _, fun _ => rfl⟩,
    (fun _ _ h => by cases h), (fun _ _ h => by cases h), (fun _ _ h => by cases h), fun _ _ h => by cases h⟩
def Me (ok : Nat → Prop) (x : Mt × Int) (e : Ending) (w' : World) : Prop := ∃ v, IsM ok w' v x.1 ∧ e = .returned (.tuple #[v, .int .i64 x.2])
theorem isM_lit {ok : Nat → Prop} {w : World} {v : Value} {m : Mt} (h : IsM ok w v m) : ∃ (o f sig : ByteArray) (ep : Int) (A : Option Addr) (c : Nat) (rs : List ByteArray) (B : Option Addr) (d : Nat) (ws : List ByteArray) (ver : Nat) (V : Option Addr) (cv : Nat) (vs : List ByteArray) (K : Option Addr) (ck : Nat) (ks : List (ByteArray × ByteArray)),
    v = .agg #[.string o, .string f, .int .i64 ep, .slice A rs.length c, .slice B ws.length d, .int .u64 (ver : Int), .slice V vs.length cv, .slice K ks.length ck, .string sig] ∧
    m = ⟨⟨o.data.toList, f.data.toList, ep, bl rs, bl ws⟩, ver, bl vs, pl ks, sig.data.toList⟩ ∧ SReads w A rs ∧ SReads w B ws ∧ SReads w V vs ∧ PReads w K ks ∧
    IsX ok w (.agg #[.string o, .string f, .int .i64 ep, .slice A rs.length c, .slice B ws.length d]) ⟨o.data.toList, f.data.toList, ep, bl rs, bl ws⟩ := by
  obtain ⟨o, f, sig, A, c, rs, B', d, ws, V, cv, vs, K, ck, ks, h1, h2, h3, h4, h5, h6, h7, h8, h9, h10, k1, k2, k3, k4⟩ := h
  exact ⟨o, f, sig, m.r.ep, A, c, rs, B', d, ws, m.ver, V, cv, vs, K, ck, ks, h1, h2, h3, h4, h5, h6, ⟨o, f, A, c, rs, B', d, ws, rfl, rfl, h3, h4, h7, h8, k1, k2⟩⟩
def FewM (m : Mt) : Prop := Few m.r ∧ m.vf.length ≤ 40 ∧ m.bs.length ≤ 40 ∧ (∀ t ∈ m.vf, t.length ≤ 10000) ∧ (∀ b ∈ m.bs, b.1.length ≤ 10000 ∧ b.2.length ≤ 10000) ∧ m.sig.length ≤ 10000 ∧ m.ver < 18446744073709551616
end Go.Proofs.YtlkgjceddbclpaaGreat.Mta

