/-
  WHAT PACKAGE rights IS HELD TO, of any rights in memory; the document's answers in the same words; a variable that holds rights. By an AI agent; no person has read it.
-/
import Derived.Test.YtjikepfgfbnheaaGTake
import Derived.Test.YtjikepfgfbnheaaG3
import Derived.Test.YtjikepfgfbnheaaG4
namespace Go.Proofs.Ytjikepfgfbnheaa.Rig
open Go.RowKit Wire

/-- A block that is none of these. -/
def Off (gs : List Nat) (b : Nat) : Prop := b ∉ gs
def RightOK : Prop := ∀ (v : Value) (r : Rt) (w : World), IsR w v r → Few r → Calls Try.prog 23 #[v] w fun e w' => e = .returned (.bool (decide (RR r))) ∧ Below w.heap.size w w'
def CanOK : Prop := ∀ (v : Value) (r : Rt) (u : ByteArray) (wr : Bool) (w : World), IsR w v r → Few r → u.size ≤ 5000 → Calls Try.prog 25 #[v, .string u, .bool wr] w fun e w' => e = .returned (.bool (can r u.data.toList wr)) ∧ Below w.heap.size w w'
def NewOK : Prop := ∀ (gs : List Nat) (o f : ByteArray) (w : World), (∀ g ∈ gs, g < w.heap.size) → o.size ≤ 5000 → f.size ≤ 5000 → Calls Try.prog 20 #[.string o, .string f] w fun e w' => Re (Off gs) (new o.data.toList f.data.toList) e w' ∧ Below w.heap.size w w'
def GrantOK : Prop := ∀ (gs : List Nat) (v : Value) (r : Rt) (u : ByteArray) (wr : Bool) (w : World), (∀ g ∈ gs, g < w.heap.size) → IsX (Off gs) w v r → Few r → u.size ≤ 5000 → Calls Try.prog 12 #[v, .string u, .bool wr] w fun e w' => Re (Off gs) (gr r u.data.toList wr) e w' ∧ Below w.heap.size w w'
def RevokeOK : Prop := ∀ (gs : List Nat) (v : Value) (r : Rt) (u : ByteArray) (w : World), (∀ g ∈ gs, g < w.heap.size) → IsX (Off gs) w v r → Few r → u.size ≤ 5000 → Calls Try.prog 14 #[v, .string u] w fun e w' => Re (Off gs) (rv r u.data.toList) e w' ∧ Below w.heap.size w w'
def PutOK : Prop := ∀ (v : Value) (r : Rt) (w : World), IsR w v r → Few r → Calls Try.prog 16 #[v] w fun e w' => Srt (putR r) e ∧ Below w.heap.size w w'
def TakeOK : Prop := ∀ (gs : List Nat) (s : ByteArray) (w : World), (∀ g ∈ gs, g < w.heap.size) → s.size ≤ 5000 → Calls Try.prog 18 #[.string s] w fun e w' => Re (Off gs) (takeR s.data.toList) e w' ∧ Below w.heap.size w w'

theorem Re.mono {ok ok' : Nat → Prop} {x : Rt × Int} {e : Ending} {w : World} (h : Re ok x e w) (hk : ∀ b, b < w.heap.size → ok b → ok' b) : Re ok' x e w := by
  obtain ⟨v, h1, h2⟩ := h
  exact ⟨v, h1.mono hk, h2⟩
theorem re_fresh {gs : List Nat} {N : Nat} {x : Rt × Int} {e : Ending} {w : World} (h : Re (fun b => N ≤ b) x e w) (hg : ∀ g ∈ gs, g < N) : Re (Off gs) x e w :=
  h.mono fun b _ hb hm => absurd (hg b hm) (Nat.not_lt.2 hb)
theorem isR_open {w : World} {v : Value} {r : Rt} (h : IsR w v r) : ∃ (o f : ByteArray) (ep : Int) (A : Option Addr) (c : Nat) (rs : List ByteArray) (B : Option Addr) (d : Nat) (ws : List ByteArray),
    v = RV o f ep A rs.length c B ws.length d ∧ r = ⟨o.data.toList, f.data.toList, ep, bl rs, bl ws⟩ ∧ SReads w A rs ∧ SReads w B ws := by
  obtain ⟨o, f, A, c, rs, B, d, ws, h1, h2, h3, h4, _, _⟩ := h
  exact ⟨o, f, r.ep, A, c, rs, B, d, ws, h1, h2, h3, h4⟩
/-! ### the document's -/
theorem rright_is (v : Value) (r : Rt) (w : World) (h : IsR w v r) (hf : Few r) : Calls Try.prog 24 #[v] w fun e w' => e = .returned (.bool (decide (RR r))) ∧ Below w.heap.size w w' := by
  obtain ⟨o, f, ep, A, c, rs, B, d, ws, rfl, rfl, h3, h4⟩ := isR_open h
  exact rright_any o f ep A c rs B d ws w h3 h4 hf
theorem rcan_is (v : Value) (r : Rt) (u : ByteArray) (wr : Bool) (w : World) (h : IsR w v r) (hf : Few r) : Calls Try.prog 26 #[v, .string u, .bool wr] w fun e w' => e = .returned (.bool (can r u.data.toList wr)) ∧ Below w.heap.size w w' := by
  obtain ⟨o, f, ep, A, c, rs, B, d, ws, rfl, rfl, h3, h4⟩ := isR_open h
  exact rcan_any o f ep A c rs B d ws u wr w h3 h4 hf
theorem rput_is (v : Value) (r : Rt) (w : World) (h : IsR w v r) (hf : Few r) : Calls Try.prog 17 #[v] w fun e w' => Srt (putR r) e ∧ Below w.heap.size w w' := by
  obtain ⟨o, f, ep, A, c, rs, B, d, ws, rfl, rfl, h3, h4⟩ := isR_open h
  exact rput_any o f ep A c rs B d ws w h3 h4 hf
theorem rnew_is (gs : List Nat) (o f : ByteArray) (w : World) (hg : ∀ g ∈ gs, g < w.heap.size) (ho : o.size ≤ 5000) (hf : f.size ≤ 5000) : Calls Try.prog 21 #[.string o, .string f] w fun e w' => Re (Off gs) (new o.data.toList f.data.toList) e w' ∧ Below w.heap.size w w' :=
  (rnew_any o f w (by omega) (by omega)).mono fun _ _ h => ⟨re_fresh h.1 hg, h.2⟩
theorem rgrant_is (gs : List Nat) (v : Value) (r : Rt) (u : ByteArray) (wr : Bool) (w : World) (hg : ∀ g ∈ gs, g < w.heap.size) (h : IsX (Off gs) w v r) (hf : Few r) (hu : u.size ≤ 5000) : Calls Try.prog 13 #[v, .string u, .bool wr] w fun e w' => Re (Off gs) (gr r u.data.toList wr) e w' ∧ Below w.heap.size w w' := by
  obtain ⟨o, f, ep, A, c, rs, B, d, ws, rfl, rfl, h3, h4⟩ := isR_open h.isR
  exact (rgrant_any o f ep A c rs B d ws u wr w h3 h4 hf (by omega)).mono fun _ _ h => ⟨re_fresh h.1 hg, h.2⟩
theorem rrevoke_is (gs : List Nat) (v : Value) (r : Rt) (u : ByteArray) (w : World) (hg : ∀ g ∈ gs, g < w.heap.size) (h : IsX (Off gs) w v r) (hf : Few r) (hu : u.size ≤ 5000) : Calls Try.prog 15 #[v, .string u] w fun e w' => Re (Off gs) (rv r u.data.toList) e w' ∧ Below w.heap.size w w' := by
  obtain ⟨o, f, ep, A, c, rs, B, d, ws, rfl, rfl, h3, h4⟩ := isR_open h.isR
  exact (rrevoke_any o f ep A c rs B d ws u w h3 h4 hf (by omega)).mono fun _ _ h => ⟨re_fresh h.1 hg, h.2⟩
theorem rtake_is (gs : List Nat) (s : ByteArray) (w : World) (hg : ∀ g ∈ gs, g < w.heap.size) (hs : s.size ≤ 5000) : Calls Try.prog 19 #[.string s] w fun e w' => Re (Off gs) (takeR s.data.toList) e w' ∧ Below w.heap.size w w' :=
  (rtake_any s w hs).mono fun _ _ h => ⟨re_fresh h.1 hg, h.2⟩
theorem rsame_is (v v' : Value) (r : Rt) (w : World) (h : IsR w v r) (h' : IsR w v' r) (hf : Few r) : Calls Try.prog 22 #[v, v'] w fun e w' => e = .returned (.bool true) ∧ Below w.heap.size w w' := by
  obtain ⟨o, f, ep, A, c, rs, B, d, ws, rfl, rfl, h3, h4⟩ := isR_open h
  obtain ⟨o', f', ep', A', c', rs', B', d', ws', rfl, e, h3', h4'⟩ := isR_open h'
  simp only [Rt.mk.injEq] at e
  obtain ⟨e1, e2, rfl, e4, e5⟩ := e
  obtain rfl := str_eq e1
  obtain rfl := str_eq e2
  obtain rfl := bl_inj e4
  obtain rfl := bl_inj e5
  have h1 := hf.2.2.1
  have h2 := hf.2.2.2.1
  simp only [bl_len] at h1 h2
  exact rsame_any o f ep A c rs B d ws A' c' B' d' w h3 h4 h3' h4' (by omega) (by omega)
/-! ### a variable that holds rights -/
theorem isX_len {ok : Nat → Prop} {w : World} {o f : ByteArray} {ep : Int} {A : Option Addr} {n c : Nat} {B : Option Addr} {m d : Nat} {r : Rt} (h : IsX ok w (.agg #[.string o, .string f, .int .i64 ep, .slice A n c, .slice B m d]) r) : n = r.rs.length ∧ m = r.ws.length ∧ ep = r.ep ∧ o.data.toList = r.o ∧ f.data.toList = r.f := by
  obtain ⟨o2, f2, A2, c2, rs, B2, d2, ws, h1, h2, _⟩ := h
  unfold RV at h1
  simp only [Value.agg.injEq, Array.mk.injEq, List.cons.injEq, Value.string.injEq, Value.int.injEq, Value.slice.injEq, true_and, and_true] at h1
  obtain ⟨rfl, rfl, e, ⟨_, rfl, _⟩, _, rfl, _⟩ := h1
  have h3 := congrArg Rt.rs h2
  have h4 := congrArg Rt.ws h2
  have h5 := congrArg Rt.o h2
  have h6 := congrArg Rt.f h2
  simp only at h3 h4 h5 h6
  exact ⟨by rw [h3, bl_len], by rw [h4, bl_len], e, h5.symm, h6.symm⟩
/-- A value that says rights, its parts. -/
theorem isX_lit {ok : Nat → Prop} {w : World} {v : Value} {r : Rt} (h : IsX ok w v r) : ∃ (o f : ByteArray) (ep : Int) (A : Option Addr) (n c : Nat) (B : Option Addr) (m d : Nat), v = .agg #[.string o, .string f, .int .i64 ep, .slice A n c, .slice B m d] ∧
    ep = r.ep ∧ n = r.rs.length ∧ m = r.ws.length ∧ o.data.toList = r.o ∧ f.data.toList = r.f ∧ IsX ok w (.agg #[.string o, .string f, .int .i64 ep, .slice A n c, .slice B m d]) r := by
  obtain ⟨o, f, A, c, rs, B, d, ws, rfl, h2⟩ := id h
  obtain ⟨h3, h4, _, h5, h6⟩ := isX_len (show IsX ok w (.agg #[.string o, .string f, .int .i64 r.ep, .slice A rs.length c, .slice B ws.length d]) r from h)
  exact ⟨o, f, _, A, _, c, B, _, d, rfl, rfl, h3, h4, h5, h6, h⟩
/-- Block g holds these parts, which say rights (it may be written); their lists lie in none of the blocks gs. -/
def HoldL (gs : List Nat) (g : Nat) (w : World) (o f : ByteArray) (ep : Int) (A : Option Addr) (n c : Nat) (B : Option Addr) (m d : Nat) (r : Rt) : Prop :=
  Bx g w o f ep A n c B m d ∧ Sf g w ∧ IsX (Off gs) w (.agg #[.string o, .string f, .int .i64 ep, .slice A n c, .slice B m d]) r
def Hold (gs : List Nat) (g : Nat) (w : World) (r : Rt) : Prop := ∃ (o f : ByteArray) (ep : Int) (A : Option Addr) (n c : Nat) (B : Option Addr) (m d : Nat), HoldL gs g w o f ep A n c B m d r ∧ ep = r.ep ∧ n = r.rs.length ∧ m = r.ws.length ∧ o.data.toList = r.o ∧ f.data.toList = r.f
section
variable {gs : List Nat} {g : Nat} {w w' : World} {o f : ByteArray} {ep : Int} {A : Option Addr} {n c : Nat} {B : Option Addr} {m d : Nat} {r : Rt}
theorem HoldL.lt (h : HoldL gs g w o f ep A n c B m d r) : g < w.heap.size := h.1.2.2.2.2.2
theorem HoldL.isX (h : HoldL gs g w o f ep A n c B m d r) : IsX (Off gs) w (.agg #[.string o, .string f, .int .i64 ep, .slice A n c, .slice B m d]) r := h.2.2
theorem HoldL.isR (h : HoldL gs g w o f ep A n c B m d r) : IsR w (.agg #[.string o, .string f, .int .i64 ep, .slice A n c, .slice B m d]) r := h.2.2.isR
theorem HoldL.shut (h : HoldL gs g w o f ep A n c B m d r) : Hold gs g w r := by
  obtain ⟨h1, h2, h3, h5, h6⟩ := isX_len h.2.2
  exact ⟨o, f, ep, A, n, c, B, m, d, h, h3, h1, h2, h5, h6⟩
theorem HoldL.call (h : HoldL gs g w o f ep A n c B m d r) (hb : Below w.heap.size w w') : HoldL gs g w' o f ep A n c B m d r :=
  ⟨h.1.below hb h.lt, h.2.1.below hb h.lt, h.2.2.below hb (Nat.le_refl _)⟩
theorem HoldL.sub {gs' : List Nat} (h : HoldL gs g w o f ep A n c B m d r) (hs : ∀ b ∈ gs', b ∈ gs) : HoldL gs' g w o f ep A n c B m d r := ⟨h.1, h.2.1, h.2.2.mono fun b _ hb hm => hb (hs b hm)⟩
theorem isX_more {g' : Nat} {v : Value} (h : IsX (Off gs) w v r) (hg : w.heap.size ≤ g') : IsX (Off (g' :: gs)) w v r :=
  h.mono fun b hlt hb hm => by
    rcases List.mem_cons.1 hm with rfl | hm
    · omega
    · exact hb hm
/-- One block more, that is new. -/
theorem HoldL.more {g' : Nat} (h : HoldL gs g w o f ep A n c B m d r) (hg : w.heap.size ≤ g') : HoldL (g' :: gs) g w o f ep A n c B m d r := ⟨h.1, h.2.1, isX_more h.2.2 hg⟩
/-- A new variable. -/
theorem hold_alloc {t : TypeId} (hx : IsX (Off gs) w (.agg #[.string o, .string f, .int .i64 ep, .slice A n c, .slice B m d]) r) : HoldL (w.heap.size :: gs) w.heap.size (w.alloc (.cells #[.string o, .string f, .int .i64 ep, .slice A n c, .slice B m d] t)) o f ep A n c B m d r :=
  ⟨bx_alloc w _ _ _ _ _ _ _ _ _ t, sf_alloc w _ t, (isX_more hx (Nat.le_refl _)).below (al w _) (Nat.le_refl _)⟩
theorem hold_zero (gs : List Nat) (w : World) (t : TypeId) : HoldL (w.heap.size :: gs) w.heap.size (w.alloc (.cells #[.string ⟨#[]⟩, .string ⟨#[]⟩, .int .i64 0, .slice none 0 0, .slice none 0 0] t)) ⟨#[]⟩ ⟨#[]⟩ 0 none 0 0 none 0 0 zero :=
  hold_alloc (gs := gs) (w := w) (o := ⟨#[]⟩) (f := ⟨#[]⟩) (ep := 0) (A := none) (n := 0) (c := 0) (B := none) (m := 0) (d := 0) (r := zero) (t := t) (isX_zero _ _)
theorem HoldL.new {ob : Obj} (h : HoldL gs g w o f ep A n c B m d r) : HoldL (w.heap.size :: gs) g (w.alloc ob) o f ep A n c B m d r := (h.more (Nat.le_refl _)).call (al w ob)
/-- Five stores into a block of gs: rights elsewhere stay. -/
theorem isX_set5 {G : Nat} (hG : G ∈ gs) {v v0 v1 v2 v3 v4 : Value} (h : IsX (Off gs) w v r) : IsX (Off gs) (((((w.setCell ⟨G, 0, none⟩ v0).setCell ⟨G, 1, none⟩ v1).setCell ⟨G, 2, none⟩ v2).setCell ⟨G, 3, none⟩ v3).setCell ⟨G, 4, none⟩ v4) v r := by
  obtain ⟨o, f, A, c, rs, B', d, ws, h1, h2, h3, h4, h5, h6, h7, h8⟩ := h
  refine ⟨o, f, A, c, rs, B', d, ws, h1, h2, sreads_setL5 h3 fun b off e h0 e2 => ?_, sreads_setL5 h4 fun b off e h0 e2 => ?_, h5, h6, h7, h8⟩
  · subst e2; exact h7 b off e h0 hG
  · subst e2; exact h8 b off e h0 hG
theorem cell_set5 {G : Nat} {v0 v1 v2 v3 v4 : Value} {j : Nat} (h : g ≠ G) : (((((w.setCell ⟨G, 0, none⟩ v0).setCell ⟨G, 1, none⟩ v1).setCell ⟨G, 2, none⟩ v2).setCell ⟨G, 3, none⟩ v3).setCell ⟨G, 4, none⟩ v4).cell? ⟨g, j, none⟩ = w.cell? ⟨g, j, none⟩ := by
  have e : ∀ i, (⟨G, i, none⟩ : Addr) ≠ ⟨g, j, none⟩ := fun i e => h (by injection e with e1 _ _; exact e1.symm)
  rw [World.cell?_setCell_other _ _ _ _ (e 4), World.cell?_setCell_other _ _ _ _ (e 3), World.cell?_setCell_other _ _ _ _ (e 2), World.cell?_setCell_other _ _ _ _ (e 1), World.cell?_setCell_other _ _ _ _ (e 0)]
theorem HoldL.set5 {G : Nat} (hG : G ∈ gs) (hne : g ≠ G) {v0 v1 v2 v3 v4 : Value} (h : HoldL gs g w o f ep A n c B m d r) : HoldL gs g (((((w.setCell ⟨G, 0, none⟩ v0).setCell ⟨G, 1, none⟩ v1).setCell ⟨G, 2, none⟩ v2).setCell ⟨G, 3, none⟩ v3).setCell ⟨G, 4, none⟩ v4) o f ep A n c B m d r := by
  obtain ⟨h1, h2, h3⟩ := h
  obtain ⟨b0, b1, b2, b3, b4, b5⟩ := h1
  obtain ⟨f0, f1, f2, f3, f4⟩ := h2
  exact ⟨⟨(cell_set5 hne).trans b0, (cell_set5 hne).trans b1, (cell_set5 hne).trans b2, (cell_set5 hne).trans b3, (cell_set5 hne).trans b4, by simpa [World.setCell] using b5⟩, ⟨by simpa using f0, by simpa using f1, by simpa using f2, by simpa using f3, by simpa using f4⟩, isX_set5 hG h3⟩
/-- The block that is written holds what was stored. -/
theorem hold_set5 {o' f' : ByteArray} {ep' : Int} {A' : Option Addr} {n' c' : Nat} {B' : Option Addr} {m' d' : Nat} {r' : Rt} (hG : g ∈ gs) (h : HoldL gs g w o' f' ep' A' n' c' B' m' d' r') (hx : IsX (Off gs) w (.agg #[.string o, .string f, .int .i64 ep, .slice A n c, .slice B m d]) r) :
    HoldL gs g (((((w.setCell ⟨g, 0, none⟩ (.string o)).setCell ⟨g, 1, none⟩ (.string f)).setCell ⟨g, 2, none⟩ (.int .i64 ep)).setCell ⟨g, 3, none⟩ (.slice A n c)).setCell ⟨g, 4, none⟩ (.slice B m d)) o f ep A n c B m d r :=
  ⟨bx_set5 h.1, sf_set5 h.2.1, isX_set5 hG hx⟩
theorem gs_nil : ∀ b ∈ ([] : List Nat), b < w.heap.size := fun _ h => (List.not_mem_nil h).elim
theorem gs_cons (h : g < w.heap.size) (hs : ∀ b ∈ gs, b < w.heap.size) : ∀ b ∈ g :: gs, b < w.heap.size := fun b hb => by
  rcases List.mem_cons.1 hb with rfl | hb
  · exact h
  · exact hs b hb
theorem few_zero' : Few zero := few_zero
end
end Go.Proofs.Ytjikepfgfbnheaa.Rig
