/-
  THE CODE's seven calls (package rights) are as GSpec asks. By an AI agent; no person has read it.
-/
import Derived.Test.YtjikepfgfbnheaaGCRevoke
import Derived.Test.YtjikepfgfbnheaaGCTk
import Derived.Test.YtjikepfgfbnheaaGCPut
import Derived.Test.YtjikepfgfbnheaaGTo
namespace Go.Proofs.Ytjikepfgfbnheaa.Rig
open Go.RowKit Wire

theorem isX_open {ok : Nat → Prop} {w : World} {v : Value} {r : Rt} (h : IsX ok w v r) : ∃ (o f : ByteArray) (ep : Int) (A : Option Addr) (c : Nat) (rs : List ByteArray) (B : Option Addr) (d : Nat) (ws : List ByteArray),
    v = RV o f ep A rs.length c B ws.length d ∧ r = ⟨o.data.toList, f.data.toList, ep, bl rs, bl ws⟩ ∧ SReads w A rs ∧ SReads w B ws ∧ (rs.length ≤ c ∧ (A = none → c = 0)) ∧ (ws.length ≤ d ∧ (B = none → d = 0)) := by
  obtain ⟨o, f, A, c, rs, B, d, ws, h1, h2, h3, h4, h5, h6, _⟩ := h
  exact ⟨o, f, r.ep, A, c, rs, B, d, ws, h1, h2, h3, h4, h5, h6⟩
theorem rightok : RightOK := fun v r w h hf => right_at v r w h hf
theorem putok : PutOK := fun v r w h hf => put_at v r w h hf
theorem takeok : TakeOK := fun gs s w hg hs => take_code gs s w hg hs
theorem newok : NewOK := fun gs o f w hg ho hf => (new_code o f w (by omega) (by omega)).mono fun _ _ h => ⟨re_fresh h.1 hg, h.2⟩
theorem canok : CanOK := by
  intro v r u wr w h hf _
  obtain ⟨o, f, ep, A, c, rs, B, d, ws, rfl, rfl, h3, h4⟩ := isR_open h
  exact can_code o f ep A c rs B d ws u wr w h3 h4 hf
theorem grantok : GrantOK := by
  intro gs v r u wr w hg h hf _
  obtain ⟨o, f, ep, A, c, rs, B, d, ws, rfl, rfl, h3, h4, h5, h6⟩ := isX_open h
  exact (grant_code o f ep A c rs B d ws u wr w h3 h4 hf h5 h6).mono fun _ _ h => ⟨re_fresh h.1 hg, h.2⟩
theorem revokeok : RevokeOK := by
  intro gs v r u w hg h hf _
  obtain ⟨o, f, ep, A, c, rs, B, d, ws, rfl, rfl, h3, h4, h5, h6⟩ := isX_open h
  exact (revoke_code o f ep A c rs B d ws u w h3 h4 hf h5 h6).mono fun _ _ h => ⟨re_fresh h.1 hg, h.2⟩
end Go.Proofs.Ytjikepfgfbnheaa.Rig
