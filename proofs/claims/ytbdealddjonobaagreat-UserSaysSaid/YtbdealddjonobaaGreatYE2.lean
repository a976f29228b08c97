/-
  E2. By an AI agent.
-/
import Derived.Test.YtbdealddjonobaaGreatYZ
import Derived.Test.YtbdealddjonobaaGreatYE5
import Derived.Test.YtbdealddjonobaaGreatYE6
import Derived.Test.YtbdealddjonobaaGreatYC1
import Derived.Test.YtbdealddjonobaaGreatYE1
namespace Go.Proofs.YtbdealddjonobaaGreat.Mta
open Go.RowKit Wire Term Rig

set_option linter.unusedSimpArgs false
set_option linter.unusedVariables false
def Rs (g : Nat) (w : World) : Prop := Mx g w ⟨#[]⟩ ⟨#[]⟩ 0 none 0 0 none 0 0 0 none 0 0 none 0 0 ⟨#[]⟩ ∧ Sf9 g w
theorem Rs.call {g : Nat} {w w' : World} (h : Rs g w) (hb : Below w.heap.size w w') : Rs g w' := ⟨h.1.call hb, h.2.below hb h.1.2⟩
theorem rs_lt {g : Nat} {w : World} (h : Rs g w) : g < w.heap.size := h.1.2
theorem isM_mk {ok : Nat → Prop} {w : World} {o f : ByteArray} {ep : Int} {A : Option Addr} {n c : Nat} {B : Option Addr} {m d : Nat} {r : Rt} (hx : IsX ok w (.agg #[.string o, .string f, .int .i64 ep, .slice A n c, .slice B m d]) r) (ver : Nat) {V : Option Addr} {cv : Nat} {vs : List ByteArray} (hv : SReads w V vs) (hvc : vs.length ≤ cv ∧ (V = none → cv = 0)) (hvo : ∀ b off, V = some ⟨b, off, none⟩ → 0 < vs.length → ok b)
    {K : Option Addr} {ck : Nat} {ks : List (ByteArray × ByteArray)} (hk : PReads w K ks) (hkc : ks.length ≤ ck ∧ (K = none → ck = 0)) (hko : ∀ b off, K = some ⟨b, off, none⟩ → 0 < ks.length → ok b) (sig : ByteArray) :
    IsM ok w (.agg #[.string o, .string f, .int .i64 ep, .slice A n c, .slice B m d, .int .u64 (ver : Int), .slice V vs.length cv, .slice K ks.length ck, .string sig]) ⟨r, ver, bl vs, pl ks, sig.data.toList⟩ := by
  obtain ⟨o', f', A', c', rs, B', d', ws, h1, h2, h3, h4, h5, h6, h7, h8⟩ := hx
  simp [RV] at h1
  obtain ⟨rfl, rfl, rfl, ⟨rfl, rfl, rfl⟩, ⟨rfl, rfl, rfl⟩⟩ := h1
  exact ⟨o, f, sig, A, c, rs, B, d, ws, V, cv, vs, K, ck, ks, rfl, congrArg (fun r => (⟨r, ver, bl vs, pl ks, sig.data.toList⟩ : Mt)) h2, h3, h4, hv, hk, h5, h6, hvc, hkc, h7, h8, hvo, hko⟩
theorem rs_alloc (w : World) (t : TypeId) : Rs w.heap.size (w.alloc (.cells #[.string ⟨#[]⟩, .string ⟨#[]⟩, .int .i64 0, .slice none 0 0, .slice none 0 0, .int .u64 0, .slice none 0 0, .slice none 0 0, .string ⟨#[]⟩] t)) := ⟨mx_alloc w ⟨#[]⟩ ⟨#[]⟩ 0 none 0 0 none 0 0 0 none 0 0 none 0 0 ⟨#[]⟩ t, sf9_alloc w _ t⟩
end Go.Proofs.YtbdealddjonobaaGreat.Mta

namespace Go.Proofs.YtbdealddjonobaaGreat.Mta
open Go.RowKit Wire Term Rig

set_option linter.unusedSimpArgs false
set_option linter.unusedVariables false
theorem isM_all {ok : Nat → Prop} {w : World} {v : Value} {m : Mt} (h : IsM ok w v m) : ∃ (o f sig : ByteArray) (ep : Int) (A : Option Addr) (c : Nat) (rs : List ByteArray) (B : Option Addr) (d : Nat) (ws : List ByteArray) (ver : Nat) (V : Option Addr) (cv : Nat) (vs : List ByteArray) (K : Option Addr) (ck : Nat) (ks : List (ByteArray × ByteArray)),
    v = .agg #[.string o, .string f, .int .i64 ep, .slice A rs.length c, .slice B ws.length d, .int .u64 (ver : Int), .slice V vs.length cv, .slice K ks.length ck, .string sig] ∧ m = ⟨⟨o.data.toList, f.data.toList, ep, bl rs, bl ws⟩, ver, bl vs, pl ks, sig.data.toList⟩ ∧ SReads w A rs ∧ SReads w B ws ∧ SReads w V vs ∧ PReads w K ks ∧ (A = none → c = 0) ∧ (B = none → d = 0) := by
  obtain ⟨o, f, sig, A, c, rs, B', d, ws, V, cv, vs, K, ck, ks, h1, h2, h3, h4, h5, h6, h7, h8, _⟩ := h
  exact ⟨o, f, sig, m.r.ep, A, c, rs, B', d, ws, m.ver, V, cv, vs, K, ck, ks, h1, h2, h3, h4, h5, h6, h7.2, h8.2⟩
end Go.Proofs.YtbdealddjonobaaGreat.Mta

