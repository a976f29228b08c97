/-
  WHAT PACKAGE user IS HELD TO: users behind pointers, whatever they are made of; what is told of a file, as a struct's value; parts of a frame for both. By an AI agent; no person has read it.
-/
import Derived.Test.YtbdealddjonobaaGreatUPure
import Derived.Test.YtbdealddjonobaaGreatG1
import Derived.Test.YtbdealddjonobaaGreatFrm
namespace Go.Proofs.YtbdealddjonobaaGreat.Usr
open Go Go.RowKit Wire Rig Draw Frm

set_option linter.unusedVariables false
/-- The blocks that the slices among these values lie in. -/
def Bk (vs : List Value) (b : Nat) : Prop := ∃ off n c, Value.slice (some ⟨b, off, none⟩) n c ∈ vs ∧ 0 < n
/-- A row of texts that is read alone. -/
def rowP (A : Option Addr) (ys : List ByteArray) : Part where
  P w := SReads w A ys
  S b := 0 < ys.length ∧ ∃ off, A = some ⟨b, off, none⟩
  M _ := False
  sub _ h := h.elim
  dep hs h hb := fun j hj => by
    obtain ⟨b, off, e, hlt, hc⟩ := h j hj
    exact ⟨b, off, e, Nat.lt_of_lt_of_le hlt hs, (World.cell?_of_block (a := ⟨b, off + j, none⟩) (hb b ⟨by omega, off, e⟩)).trans hc⟩
  old h b hb := by
    obtain ⟨h0, off, e⟩ := hb
    exact sreads_lt h e h0
/-- A struct's nine cells say what is held. -/
def OV (o f : ByteArray) (ep : Int) (A : Option Addr) (n c : Nat) (B : Option Addr) (m d : Nat) (ver : Int) (R : ByteArray) (S : Option Addr) (k e : Nat) (g : Bool) : List Value := [.string o, .string f, .int .i64 ep, .slice A n c, .slice B m d, .int .u64 ver, .string R, .slice S k e, .bool g]
def IsO (w : World) (vs : List Value) (x : Ow) : Prop := ∃ (o f : ByteArray) (A : Option Addr) (c : Nat) (rs : List ByteArray) (B : Option Addr) (d : Nat) (ws : List ByteArray) (R : ByteArray) (S : Option Addr) (e : Nat) (ss : List ByteArray),
  vs = OV o f x.r.ep A rs.length c B ws.length d (x.ver : Int) R S ss.length e x.gone ∧ x = ⟨⟨o.data.toList, f.data.toList, x.r.ep, bl rs, bl ws⟩, x.ver, R.data.toList, bl ss, x.gone⟩ ∧ SReads w A rs ∧ SReads w B ws ∧ SReads w S ss ∧ rs.length ≤ c ∧ ws.length ≤ d ∧ ss.length ≤ e
theorem isO_zero (w : World) : IsO w (OV ⟨#[]⟩ ⟨#[]⟩ 0 none 0 0 none 0 0 0 ⟨#[]⟩ none 0 0 false) ow0 := ⟨⟨#[]⟩, ⟨#[]⟩, none, 0, [], none, 0, [], ⟨#[]⟩, none, 0, [], rfl, rfl, SReads.nil _ _, SReads.nil _ _, SReads.nil _ _, Nat.le_refl _, Nat.le_refl _, Nat.le_refl _⟩
/-- What was told of a file, read alone. -/
def ownP (vs : List Value) (x : Ow) : Part where
  P w := IsO w vs x
  S b := Bk vs b
  M _ := False
  sub _ h := h.elim
  dep hs h hb := by
    obtain ⟨o, f, A, c, rs, B, d, ws, R, S, e, ss, rfl, h2, h3, h4, h5, h6⟩ := h
    refine ⟨o, f, A, c, rs, B, d, ws, R, S, e, ss, rfl, h2, (rowP A rs).dep hs h3 fun b h => ?_, (rowP B ws).dep hs h4 fun b h => ?_, (rowP S ss).dep hs h5 fun b h => ?_, h6⟩
    · obtain ⟨h0, off, rfl⟩ := h
      exact hb b ⟨off, rs.length, c, by simp [OV], h0⟩
    · obtain ⟨h0, off, rfl⟩ := h
      exact hb b ⟨off, ws.length, d, by simp [OV], h0⟩
    · obtain ⟨h0, off, rfl⟩ := h
      exact hb b ⟨off, ss.length, e, by simp [OV], h0⟩
  old h b hb := by
    obtain ⟨o, f, A, c, rs, B, d, ws, R, S, e, ss, rfl, h2, h3, h4, h5, h6⟩ := h
    obtain ⟨off, n, c2, hm, h0⟩ := hb
    simp only [OV, List.mem_cons, reduceCtorEq, Value.slice.injEq, List.not_mem_nil, or_false, false_or] at hm
    rcases hm with ⟨e1, e2, _⟩ | ⟨e1, e2, _⟩ | ⟨e1, e2, _⟩
    · exact sreads_lt h3 e1.symm (by omega)
    · exact sreads_lt h4 e1.symm (by omega)
    · exact sreads_lt h5 e1.symm (by omega)
/-- In this world, behind this address: a user, which hangs on blocks S, of which M may be written. -/
abbrev UPred := World → Addr → (Nat → Prop) → (Nat → Prop) → Us → Prop
/-- Blocks of what is told: what the user hangs on and never writes, or new ones. -/
def Shy (w : World) (S M : Nat → Prop) (b : Nat) : Prop := (S b ∧ ¬ M b) ∨ w.heap.size ≤ b
def More (w : World) (S S' : Nat → Prop) : Prop := ∀ b, S' b → S b ∨ w.heap.size ≤ b
/-- A call that may turn a user. -/
def Turn (D : UPred) (a : Addr) (S M : Nat → Prop) (x : Us × Int) (w : World) (e : Ending) (w' : World) : Prop :=
  e = .returned (.int .i64 x.2) ∧ (∃ S' M', D w' a S' M' x.1 ∧ More w S S' ∧ More w M M') ∧ Fr M w w'
/-- A row of texts that was told. -/
def Told (w : World) (S M : Nat → Prop) (l : List Tm) (e : Ending) (w' : World) : Prop :=
  ∃ (A : Option Addr) (c : Nat) (ys : List ByteArray), bl ys = l ∧ (ys.length ≤ c ∧ c ≤ 9223372036854775807) ∧ SReads w' A ys ∧ (∀ b, (rowP A ys).S b → Shy w S M b) ∧ e = .returned (.slice A ys.length c)
structure UserOK (D : UPred) : Prop where
  old : ∀ {w : World} {a : Addr} {S M : Nat → Prop} {u : Us}, D w a S M u → ∀ b, S b → b < w.heap.size
  sub : ∀ {w : World} {a : Addr} {S M : Nat → Prop} {u : Us}, D w a S M u → ∀ b, M b → S b
  keep : ∀ {w w' : World} {a : Addr} {S M : Nat → Prop} {u : Us}, w.heap.size ≤ w'.heap.size → D w a S M u → (∀ b, S b → w'.heap[b]? = w.heap[b]?) → D w' a S M u
  no : ∀ (N : ByteArray) (sd : Nat) (w : World), N.size ≤ 10000 → sd < 18446744073709551616 → nm N.data.toList = false → Calls Tryz.prog 9 #[.string N, .int .u64 (sd : Int)] w fun e w' => e = .returned (.tuple #[.pointer none, .int .i64 3]) ∧ Below w.heap.size w w'
  new : ∀ (N : ByteArray) (sd : Nat) (w : World), N.size ≤ 10000 → sd < 18446744073709551616 → nm N.data.toList = true → Calls Tryz.prog 9 #[.string N, .int .u64 (sd : Int)] w fun e w' => ∃ a S M, e = .returned (.tuple #[.pointer (some a), .int .i64 0]) ∧ D w' a S M (us0 N.data.toList sd) ∧ (∀ b, S b → w.heap.size ≤ b) ∧ Below w.heap.size w w'
  name : ∀ (n : Nat) (a : Addr) (S M : Nat → Prop) (u : Us) (w : World), D w a S M u → Fine n u → n ≤ 200 → Calls Tryz.prog 11 #[.pointer (some a)] w fun e w' => St u.nm e ∧ Below w.heap.size w w'
  secret : ∀ (n : Nat) (a : Addr) (S M : Nat → Prop) (u : Us) (w : World), D w a S M u → Fine n u → n ≤ 200 → Calls Tryz.prog 12 #[.pointer (some a)] w fun e w' => St u.sec e ∧ Below w.heap.size w w'
  pub : ∀ (n : Nat) (a : Addr) (S M : Nat → Prop) (u : Us) (w : World), D w a S M u → Fine n u → n ≤ 200 → Calls Tryz.prog 13 #[.pointer (some a)] w fun e w' => St (Term.one 117 u.sec).1 e ∧ Below w.heap.size w w'
  create : ∀ (n : Nat) (a : Addr) (S M : Nat → Prop) (u : Us) (F : ByteArray) (w : World), D w a S M u → Fine n u → n ≤ 200 → F.size ≤ 10000 → Calls Tryz.prog 17 #[.pointer (some a), .string F] w (Turn D a S M (create u F.data.toList) w)
  grant : ∀ (n : Nat) (a : Addr) (S M : Nat → Prop) (u : Us) (F W : ByteArray) (b : Bool) (w : World), D w a S M u → Fine n u → n ≤ 200 → F.size ≤ 10000 → W.size ≤ 10000 → Calls Tryz.prog 58 #[.pointer (some a), .string F, .string W, .bool b] w (Turn D a S M (grant u F.data.toList W.data.toList b) w)
  revoke : ∀ (n : Nat) (a : Addr) (S M : Nat → Prop) (u : Us) (F W : ByteArray) (w : World), D w a S M u → Fine n u → n ≤ 200 → F.size ≤ 10000 → W.size ≤ 10000 → Calls Tryz.prog 59 #[.pointer (some a), .string F, .string W] w (Turn D a S M (revoke u F.data.toList W.data.toList) w)
  remove : ∀ (n : Nat) (a : Addr) (S M : Nat → Prop) (u : Us) (F : ByteArray) (w : World), D w a S M u → Fine n u → n ≤ 200 → F.size ≤ 10000 → Calls Tryz.prog 18 #[.pointer (some a), .string F] w (Turn D a S M (remove u F.data.toList) w)
  own : ∀ (n : Nat) (a : Addr) (S M : Nat → Prop) (u : Us) (F : ByteArray) (w : World), D w a S M u → Fine n u → n ≤ 200 → F.size ≤ 10000 → Calls Tryz.prog 25 #[.pointer (some a), .string F] w fun e w' => (∃ vs, IsO w' vs (own u F.data.toList).1 ∧ (∀ b, Bk vs b → Shy w S M b) ∧ e = .returned (.tuple #[.agg vs.toArray, .int .i64 (own u F.data.toList).2])) ∧ Below w.heap.size w w'
  files : ∀ (n : Nat) (a : Addr) (S M : Nat → Prop) (u : Us) (w : World), D w a S M u → Fine n u → n ≤ 200 → Calls Tryz.prog 22 #[.pointer (some a)] w fun e w' => (∃ l, (Lsd [] l ∧ ∀ x, x ∈ l ↔ u.live x = true) ∧ Told w S M l e w') ∧ Below w.heap.size w w'
  copy : ∀ (n : Nat) (a : Addr) (S M : Nat → Prop) (u : Us) (w : World), D w a S M u → Fine n u → n ≤ 200 → Calls Tryz.prog 16 #[.pointer (some a)] w fun e w' => (∃ a' S' M', e = .returned (.pointer (some a')) ∧ D w' a' S' M' u ∧ (∀ b, M' b → w.heap.size ≤ b) ∧ ∀ b, S' b → Shy w S M b) ∧ Below w.heap.size w w'
/-- A user, as a part of a frame. -/
def usP {D : UPred} (k : UserOK D) (a : Addr) (S M : Nat → Prop) (u : Us) : Part where
  P w := D w a S M u
  S := S
  M b := M b ∧ S b
  sub _ h := h.2
  dep := k.keep
  old := k.old
section
variable {D : UPred} {w0 w : World} {l : List Part} {a : Addr} {S M : Nat → Prop} {u : Us} {n : Nat}
theorem turn_fm (k : UserOK D) (i : Nat) (hi : l[i]? = some (usP k a S M u)) (h : Fm w0 w l) {x : Us × Int} {e : Ending} {w' : World} (t : Turn D a S M x w e w') : e = .returned (.int .i64 x.2) ∧ ∃ S' M', Fm w0 w' (l.set i (usP k a S' M' x.1)) := by
  obtain ⟨h1, ⟨S', M', h2, h3, h4⟩, h5⟩ := t
  have hd := h.at i hi
  refine ⟨h1, S', M', h.turn i hi ⟨h5.os, h5.tape, h5.output, h5.size, fun b hb hn => h5.block b hb fun hm => hn ⟨hm, k.sub hd b hm⟩⟩ h2 h3 fun b hb => ?_⟩
  rcases h4 b hb.1 with h6 | h6
  · exact .inl ⟨h6, k.sub hd b h6⟩
  · exact .inr h6
theorem u_new (k : UserOK D) (h : Fm w0 w l) (N : ByteArray) (sd : Nat) (hN : N.size ≤ 10000) (hs : sd < 18446744073709551616) (hn : nm N.data.toList = true) : Calls Tryz.prog 9 #[.string N, .int .u64 (sd : Int)] w fun e w' => ∃ a S M, e = .returned (.tuple #[.pointer (some a), .int .i64 0]) ∧ Fm w0 w' (usP k a S M (us0 N.data.toList sd) :: l) :=
  (k.new N sd w hN hs hn).mono fun e w' t => by
    obtain ⟨a, S, M, h1, h2, h3, h4⟩ := t
    exact ⟨a, S, M, h1, h.new h4 h2 h3 fun b hb => h3 b hb.2⟩
theorem u_no (k : UserOK D) (h : Fm w0 w l) (N : ByteArray) (sd : Nat) (hN : N.size ≤ 10000) (hs : sd < 18446744073709551616) (hn : nm N.data.toList = false) : Calls Tryz.prog 9 #[.string N, .int .u64 (sd : Int)] w fun e w' => e = .returned (.tuple #[.pointer none, .int .i64 3]) ∧ Fm w0 w' l :=
  (k.no N sd w hN hs hn).mono fun e w' t => ⟨t.1, h.go t.2⟩
theorem u_name (k : UserOK D) (i : Nat) (hi : l[i]? = some (usP k a S M u)) (h : Fm w0 w l) (f : Fine n u) (hn : n ≤ 200) : Calls Tryz.prog 11 #[.pointer (some a)] w fun e w' => St u.nm e ∧ Fm w0 w' l := (k.name n a S M u w (h.at i hi) f hn).mono fun e w' t => ⟨t.1, h.go t.2⟩
theorem u_secret (k : UserOK D) (i : Nat) (hi : l[i]? = some (usP k a S M u)) (h : Fm w0 w l) (f : Fine n u) (hn : n ≤ 200) : Calls Tryz.prog 12 #[.pointer (some a)] w fun e w' => St u.sec e ∧ Fm w0 w' l := (k.secret n a S M u w (h.at i hi) f hn).mono fun e w' t => ⟨t.1, h.go t.2⟩
theorem u_public (k : UserOK D) (i : Nat) (hi : l[i]? = some (usP k a S M u)) (h : Fm w0 w l) (f : Fine n u) (hn : n ≤ 200) : Calls Tryz.prog 13 #[.pointer (some a)] w fun e w' => St (Term.one 117 u.sec).1 e ∧ Fm w0 w' l := (k.pub n a S M u w (h.at i hi) f hn).mono fun e w' t => ⟨t.1, h.go t.2⟩
/-- A call that turns a user, in a frame. -/
def TurnF (k : UserOK D) (w0 : World) (l : List Part) (i : Nat) (a : Addr) (x : Us × Int) (e : Ending) (w' : World) : Prop := e = .returned (.int .i64 x.2) ∧ ∃ S' M', Fm w0 w' (l.set i (usP k a S' M' x.1))
theorem u_create (k : UserOK D) (i : Nat) (hi : l[i]? = some (usP k a S M u)) (h : Fm w0 w l) (f : Fine n u) (hn : n ≤ 200) (F : ByteArray) (hF : F.size ≤ 10000) : Calls Tryz.prog 17 #[.pointer (some a), .string F] w (TurnF k w0 l i a (create u F.data.toList)) := (k.create n a S M u F w (h.at i hi) f hn hF).mono fun e w' t => turn_fm k i hi h t
theorem u_grant (k : UserOK D) (i : Nat) (hi : l[i]? = some (usP k a S M u)) (h : Fm w0 w l) (f : Fine n u) (hn : n ≤ 200) (F W : ByteArray) (b : Bool) (hF : F.size ≤ 10000) (hW : W.size ≤ 10000) : Calls Tryz.prog 58 #[.pointer (some a), .string F, .string W, .bool b] w (TurnF k w0 l i a (grant u F.data.toList W.data.toList b)) := (k.grant n a S M u F W b w (h.at i hi) f hn hF hW).mono fun e w' t => turn_fm k i hi h t
theorem u_revoke (k : UserOK D) (i : Nat) (hi : l[i]? = some (usP k a S M u)) (h : Fm w0 w l) (f : Fine n u) (hn : n ≤ 200) (F W : ByteArray) (hF : F.size ≤ 10000) (hW : W.size ≤ 10000) : Calls Tryz.prog 59 #[.pointer (some a), .string F, .string W] w (TurnF k w0 l i a (revoke u F.data.toList W.data.toList)) := (k.revoke n a S M u F W w (h.at i hi) f hn hF hW).mono fun e w' t => turn_fm k i hi h t
theorem u_remove (k : UserOK D) (i : Nat) (hi : l[i]? = some (usP k a S M u)) (h : Fm w0 w l) (f : Fine n u) (hn : n ≤ 200) (F : ByteArray) (hF : F.size ≤ 10000) : Calls Tryz.prog 18 #[.pointer (some a), .string F] w (TurnF k w0 l i a (remove u F.data.toList)) := (k.remove n a S M u F w (h.at i hi) f hn hF).mono fun e w' t => turn_fm k i hi h t
theorem shut_fm {k : UserOK D} {b : Nat} (h : Shy w S M b) : ((usP k a S M u).S b ∧ ¬ (usP k a S M u).M b) ∨ w.heap.size ≤ b := h.imp_left fun h2 => ⟨h2.1, fun h3 => h2.2 h3.1⟩
theorem isO_lit {vs : List Value} {x : Ow} (h : IsO w vs x) : ∃ o f A c B d R S e, vs = OV o f x.r.ep A x.r.rs.length c B x.r.ws.length d (x.ver : Int) R S x.sg.length e x.gone ∧ o.data.toList = x.r.o ∧ f.data.toList = x.r.f ∧ R.data.toList = x.root := by
  obtain ⟨o, f, A, c, rs, B, d, ws, R, S, e, ss, h1, h2, _⟩ := h
  have p1 := congrArg (fun z : Ow => z.r.rs) h2
  have p2 := congrArg (fun z : Ow => z.r.ws) h2
  have p3 := congrArg Ow.sg h2
  have p4 := congrArg (fun z : Ow => z.r.o) h2
  have p5 := congrArg (fun z : Ow => z.r.f) h2
  have p6 := congrArg Ow.root h2
  simp only at p1 p2 p3 p4 p5 p6
  exact ⟨o, f, A, c, B, d, R, S, e, by rw [p1, p2, p3, bl_len, bl_len, bl_len]; exact h1, p4.symm, p5.symm, p6.symm⟩
theorem u_own (k : UserOK D) (i : Nat) (hi : l[i]? = some (usP k a S M u)) (h : Fm w0 w l) (f : Fine n u) (hn : n ≤ 200) (F : ByteArray) (hF : F.size ≤ 10000) : Calls Tryz.prog 25 #[.pointer (some a), .string F] w fun e w' => ∃ vs, Fm w0 w' (ownP vs (own u F.data.toList).1 :: l) ∧ e = .returned (.tuple #[.agg vs.toArray, .int .i64 (own u F.data.toList).2]) :=
  (k.own n a S M u F w (h.at i hi) f hn hF).mono fun e w' t => by
    obtain ⟨⟨vs, h1, h2, h3⟩, h4⟩ := t
    exact ⟨vs, h.told i hi h4 h1 (fun b hb => hb) fun b hb => shut_fm (h2 b hb), h3⟩
theorem u_files (k : UserOK D) (i : Nat) (hi : l[i]? = some (usP k a S M u)) (h : Fm w0 w l) (f : Fine n u) (hn : n ≤ 200) : Calls Tryz.prog 22 #[.pointer (some a)] w fun e w' => ∃ (A : Option Addr) (c : Nat) (ys : List ByteArray), (Lsd [] (bl ys) ∧ ∀ x, x ∈ bl ys ↔ u.live x = true) ∧ (ys.length ≤ c ∧ c ≤ 9223372036854775807) ∧ Fm w0 w' (rowP A ys :: l) ∧ e = .returned (.slice A ys.length c) :=
  (k.files n a S M u w (h.at i hi) f hn).mono fun e w' t => by
    obtain ⟨⟨l', h1, A, c, ys, rfl, h3, h4, h5, h6⟩, h7⟩ := t
    exact ⟨A, c, ys, h1, h3, h.told i hi h7 h4 (fun b hb => hb) fun b hb => shut_fm (h5 b hb), h6⟩
theorem u_copy (k : UserOK D) (i : Nat) (hi : l[i]? = some (usP k a S M u)) (h : Fm w0 w l) (f : Fine n u) (hn : n ≤ 200) : Calls Tryz.prog 16 #[.pointer (some a)] w fun e w' => ∃ a' S' M', e = .returned (.pointer (some a')) ∧ Fm w0 w' (usP k a' S' M' u :: l) :=
  (k.copy n a S M u w (h.at i hi) f hn).mono fun e w' t => by
    obtain ⟨⟨a', S', M', h1, h2, h3, h4⟩, h5⟩ := t
    exact ⟨a', S', M', h1, h.copy i hi h5 h2 (fun b hb => h3 b hb.1) fun b hb => shut_fm (h4 b hb)⟩
end
end Go.Proofs.YtbdealddjonobaaGreat.Usr
