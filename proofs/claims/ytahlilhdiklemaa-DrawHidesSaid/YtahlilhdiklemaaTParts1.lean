/-
  CONTRACTS of the methods parts, and of Parts (package term). By an AI agent; no person has read it.
-/
import Derived.Test.YtahlilhdiklemaaTAsk2
namespace Go.Proofs.Ytahlilhdiklemaa.Term
open Go.RowKit Wire

/-- A row of one string that the call has just laid. -/
theorem one_reads (W : World) (X : ByteArray) (g : Nat) (hg : g = W.heap.size) : SReads (W.alloc (.cells #[.string X] 9)) (some ⟨g, 0, none⟩) [X] := by
  subst hg
  intro j hj
  refine ⟨_, 0, rfl, by simp, ?_⟩
  have h : (W.alloc (.cells #[.string X] 9)).cell? ⟨W.heap.size, 0 + j, none⟩ = (#[.string X] : Array Value)[0 + j]? := cell_of_row _ _ _ _ _ (0, 0) (heap_alloc_new W _)
  refine Eq.trans h ?_
  match j, hj with
  | 0, _ => rfl
/-- A slice of these strings as an answer. -/
def Sl (ys : List ByteArray) (e : Ending) (w' : World) : Prop := ∃ (A : Option Addr) (c : Nat), ys.length ≤ c ∧ SReads w' A ys ∧ e = .returned (.slice A ys.length c)
theorem below2 {w w1 : World} (h : Below w.heap.size w w1) (o1 o2 : Obj) : Below w.heap.size w ((w1.alloc o1).alloc o2) := by
  have h1 := h.alloc h.size o1
  exact h1.alloc h1.size o2
theorem parts_atom (n : Int) (w : World) : Calls Try.prog 90 #[.agg #[.int .u64 n]] w fun e w' => Sl [] e w' ∧ Below w.heap.size w w' := by
  go_enter Try.func90, Try.ntmps90
  go_wp2
  go_ret
  exact ⟨⟨none, 0, Nat.le_refl _, SReads.nil _ _, rfl⟩, (Below.refl _ _).alloc (Nat.le_refl _) _⟩
theorem parts_text (n : ByteArray) (w : World) : Calls Try.prog 91 #[.agg #[.string n]] w fun e w' => Sl [] e w' ∧ Below w.heap.size w w' := by
  go_enter Try.func91, Try.ntmps91
  go_wp2
  go_ret
  exact ⟨⟨none, 0, Nat.le_refl _, SReads.nil _ _, rfl⟩, (Below.refl _ _).alloc (Nat.le_refl _) _⟩
theorem parts_hash (P : ByteArray) (w : World) : Calls Try.prog 92 #[.agg #[.string P]] w fun e w' => Sl [P] e w' ∧ Below w.heap.size w w' := by
  go_enter Try.func92, Try.ntmps92
  go_wp2
  go_ret
  exact ⟨⟨_, 1, Nat.le_refl _, one_reads _ P _ (by simp), rfl⟩, below2 (Below.refl _ _) _ _⟩
theorem parts_publicOne (P : ByteArray) (w : World) : Calls Try.prog 93 #[.agg #[.string P]] w fun e w' => Sl [P] e w' ∧ Below w.heap.size w w' := by
  go_enter Try.func93, Try.ntmps93
  go_wp2
  go_ret
  exact ⟨⟨_, 1, Nat.le_refl _, one_reads _ P _ (by simp), rfl⟩, below2 (Below.refl _ _) _ _⟩
theorem parts_pair (P Q : ByteArray) (w : World) : Calls Try.prog 94 #[.agg #[.string P, .string Q]] w fun e w' => Sl [P, Q] e w' ∧ Below w.heap.size w w' := by
  go_enter Try.func94, Try.ntmps94
  go_wp2
  go_ret
  exact ⟨⟨_, 2, Nat.le_refl _, pair_reads' _ P Q _ (by simp), rfl⟩, below2 (Below.refl _ _) _ _⟩
theorem parts_sealed (P Q : ByteArray) (w : World) : Calls Try.prog 95 #[.agg #[.string P, .string Q]] w fun e w' => Sl [P, Q] e w' ∧ Below w.heap.size w w' := by
  go_enter Try.func95, Try.ntmps95
  go_wp2
  go_ret
  exact ⟨⟨_, 2, Nat.le_refl _, pair_reads' _ P Q _ (by simp), rfl⟩, below2 (Below.refl _ _) _ _⟩
theorem parts_boxed (P Q : ByteArray) (w : World) : Calls Try.prog 97 #[.agg #[.string P, .string Q]] w fun e w' => Sl [P, Q] e w' ∧ Below w.heap.size w w' := by
  go_enter Try.func97, Try.ntmps97
  go_wp2
  go_ret
  exact ⟨⟨_, 2, Nat.le_refl _, pair_reads' _ P Q _ (by simp), rfl⟩, below2 (Below.refl _ _) _ _⟩
theorem parts_signed (P Q : ByteArray) (w : World) : Calls Try.prog 96 #[.agg #[.string P, .string Q]] w fun e w' => Sl [P, Q] e w' ∧ Below w.heap.size w w' := by
  go_enter Try.func96, Try.ntmps96
  go_wp2
  go_ret
  exact ⟨⟨_, 2, Nat.le_refl _, pair_reads' _ P Q _ (by simp), rfl⟩, below2 (Below.refl _ _) _ _⟩
/-! The name of the method parts is taken off the program's own table of types. -/
theorem method_atom (n : Nat) (v : Value) (w : World) (nm : String) (h : (Try.prog.info? 95).map (fun i => (i.methods.toList.map (fun m => m.name)).head?) = some (some nm)) : (method (n + 1) 95 v nm).run Try.prog w = .ok (90, v) w := by
  have e : nm = (((Try.prog.info? 95).map (fun i => (i.methods.toList.map (fun m => m.name)).head?)).getD none).getD default := by rw [h]; rfl
  have aux : (method (n + 1) 95 v ((((Try.prog.info? 95).map (fun i => (i.methods.toList.map (fun m => m.name)).head?)).getD none).getD default)).run Try.prog w = .ok (90, v) w := by kernel_rfl
  rw [e]
  exact aux
theorem method_text (n : Nat) (v : Value) (w : World) (nm : String) (h : (Try.prog.info? 99).map (fun i => (i.methods.toList.map (fun m => m.name)).head?) = some (some nm)) : (method (n + 1) 99 v nm).run Try.prog w = .ok (91, v) w := by
  have e : nm = (((Try.prog.info? 99).map (fun i => (i.methods.toList.map (fun m => m.name)).head?)).getD none).getD default := by rw [h]; rfl
  have aux : (method (n + 1) 99 v ((((Try.prog.info? 99).map (fun i => (i.methods.toList.map (fun m => m.name)).head?)).getD none).getD default)).run Try.prog w = .ok (91, v) w := by kernel_rfl
  rw [e]
  exact aux
theorem method_hash (n : Nat) (v : Value) (w : World) (nm : String) (h : (Try.prog.info? 101).map (fun i => (i.methods.toList.map (fun m => m.name)).head?) = some (some nm)) : (method (n + 1) 101 v nm).run Try.prog w = .ok (92, v) w := by
  have e : nm = (((Try.prog.info? 101).map (fun i => (i.methods.toList.map (fun m => m.name)).head?)).getD none).getD default := by rw [h]; rfl
  have aux : (method (n + 1) 101 v ((((Try.prog.info? 101).map (fun i => (i.methods.toList.map (fun m => m.name)).head?)).getD none).getD default)).run Try.prog w = .ok (92, v) w := by kernel_rfl
  rw [e]
  exact aux
theorem method_publicOne (n : Nat) (v : Value) (w : World) (nm : String) (h : (Try.prog.info? 103).map (fun i => (i.methods.toList.map (fun m => m.name)).head?) = some (some nm)) : (method (n + 1) 103 v nm).run Try.prog w = .ok (93, v) w := by
  have e : nm = (((Try.prog.info? 103).map (fun i => (i.methods.toList.map (fun m => m.name)).head?)).getD none).getD default := by rw [h]; rfl
  have aux : (method (n + 1) 103 v ((((Try.prog.info? 103).map (fun i => (i.methods.toList.map (fun m => m.name)).head?)).getD none).getD default)).run Try.prog w = .ok (93, v) w := by kernel_rfl
  rw [e]
  exact aux
theorem method_pair (n : Nat) (v : Value) (w : World) (nm : String) (h : (Try.prog.info? 105).map (fun i => (i.methods.toList.map (fun m => m.name)).head?) = some (some nm)) : (method (n + 1) 105 v nm).run Try.prog w = .ok (94, v) w := by
  have e : nm = (((Try.prog.info? 105).map (fun i => (i.methods.toList.map (fun m => m.name)).head?)).getD none).getD default := by rw [h]; rfl
  have aux : (method (n + 1) 105 v ((((Try.prog.info? 105).map (fun i => (i.methods.toList.map (fun m => m.name)).head?)).getD none).getD default)).run Try.prog w = .ok (94, v) w := by kernel_rfl
  rw [e]
  exact aux
theorem method_sealed (n : Nat) (v : Value) (w : World) (nm : String) (h : (Try.prog.info? 107).map (fun i => (i.methods.toList.map (fun m => m.name)).head?) = some (some nm)) : (method (n + 1) 107 v nm).run Try.prog w = .ok (95, v) w := by
  have e : nm = (((Try.prog.info? 107).map (fun i => (i.methods.toList.map (fun m => m.name)).head?)).getD none).getD default := by rw [h]; rfl
  have aux : (method (n + 1) 107 v ((((Try.prog.info? 107).map (fun i => (i.methods.toList.map (fun m => m.name)).head?)).getD none).getD default)).run Try.prog w = .ok (95, v) w := by kernel_rfl
  rw [e]
  exact aux
theorem method_boxed (n : Nat) (v : Value) (w : World) (nm : String) (h : (Try.prog.info? 112).map (fun i => (i.methods.toList.map (fun m => m.name)).head?) = some (some nm)) : (method (n + 1) 112 v nm).run Try.prog w = .ok (97, v) w := by
  have e : nm = (((Try.prog.info? 112).map (fun i => (i.methods.toList.map (fun m => m.name)).head?)).getD none).getD default := by rw [h]; rfl
  have aux : (method (n + 1) 112 v ((((Try.prog.info? 112).map (fun i => (i.methods.toList.map (fun m => m.name)).head?)).getD none).getD default)).run Try.prog w = .ok (97, v) w := by kernel_rfl
  rw [e]
  exact aux
theorem method_signed (n : Nat) (v : Value) (w : World) (nm : String) (h : (Try.prog.info? 109).map (fun i => (i.methods.toList.map (fun m => m.name)).head?) = some (some nm)) : (method (n + 1) 109 v nm).run Try.prog w = .ok (96, v) w := by
  have e : nm = (((Try.prog.info? 109).map (fun i => (i.methods.toList.map (fun m => m.name)).head?)).getD none).getD default := by rw [h]; rfl
  have aux : (method (n + 1) 109 v ((((Try.prog.info? 109).map (fun i => (i.methods.toList.map (fun m => m.name)).head?)).getD none).getD default)).run Try.prog w = .ok (96, v) w := by kernel_rfl
  rw [e]
  exact aux
theorem heads {l : List UInt8} (h : right l = true) : l.headD 0 = 97 ∨ l.headD 0 = 116 ∨ l.headD 0 = 104 ∨ l.headD 0 = 117 ∨ l.headD 0 = 112 ∨ l.headD 0 = 115 ∨ l.headD 0 = 98 ∨ l.headD 0 = 103 := by
  obtain ⟨b, t, m, rfl, ha, _⟩ := right_parts h
  show b = 97 ∨ b = 116 ∨ b = 104 ∨ b = 117 ∨ b = 112 ∨ b = 115 ∨ b = 98 ∨ b = 103
  unfold arity at ha
  split at ha
  · rename_i h; rcases h with h | h <;> simp [h]
  · split at ha
    · rename_i h; rcases h with h | h <;> simp [h]
    · split at ha
      · rename_i h; rcases h with h | h | h | h <;> simp [h]
      · cases ha
theorem parts_leaf {l : List UInt8} (hr : right l = true) (h : l.headD 0 = 97 ∨ l.headD 0 = 116) : parts l = ([], 0) := by
  unfold parts
  rw [if_pos hr]
  have : arity (l.headD 0) = some 0 := by unfold arity; rw [if_pos h]
  rw [this]; rfl
theorem parts_un {k : UInt8} {P : List UInt8} (hr : right (k :: P) = true) (hk : arity k = some 1) (h : right P = true) : parts (k :: P) = ([P], 0) := by
  unfold parts
  rw [if_pos hr]
  show (cuts ((arity k).getD 0) P, 0) = _
  rw [hk]
  show (cuts 1 P, 0) = _
  rw [cuts_one h]
theorem parts_bi {k : UInt8} {P Q : List UInt8} (hr : right (k :: (P ++ Q)) = true) (hk : arity k = some 2) (h : right P = true) (h2 : right Q = true) : parts (k :: (P ++ Q)) = ([P, Q], 0) := by
  unfold parts
  rw [if_pos hr]
  show (cuts ((arity k).getD 0) (P ++ Q), 0) = _
  rw [hk]
  show (cuts 2 (P ++ Q), 0) = _
  rw [cuts_two h h2]
theorem parts_wrong {l : List UInt8} (hr : right l = false) : parts l = ([], 1) := by unfold parts; rw [if_neg (by rw [hr]; decide)]
theorem ta_of {ys : List ByteArray} {x : List (List UInt8) × Int} {w' : World} {A : Option Addr} {c : Nat} (hx : x = (bl ys, 0)) (hc : ys.length ≤ c) (hs : SReads w' A ys) : Ta x (.returned (.tuple #[.slice A ys.length c, .int .i64 0])) w' := by
  subst hx
  exact ⟨A, c, ys, rfl, hc, hs, rfl⟩
set_option maxHeartbeats 2000000 in
set_option maxRecDepth 1000000 in
theorem partsOf_atom (a : ByteArray) (w : World) (hr : right a.data.toList = true) (hx : a.data.toList.headD 0 = 97) :
    Calls Try.prog 45 #[.string a] w fun e w' => Ta (parts a.data.toList) e w' ∧ Below w.heap.size w w' := by
  have q0 := nil_no
  have q1 := nil_yes
  have HR := Lib.hid hr
  have HX := Lib.hid hx
  clear hr hx
  go_enter Try.func45, Try.ntmps45
  go_wp2_with (go_at_call 37; refine (whole_any a _).mono ?_; rintro e w1 ⟨ht, hb1⟩; obtain ⟨T, v, hsh, rfl⟩ := ht.pos HR.out; obtain ⟨rfl, n, rfl, _, hl⟩ := hsh.of_atom HX.out; have HL := Lib.hid hl; clear hl; have HB1 := Lib.hid hb1; clear hb1 ht hsh; dsimp only)
  rw [method_atom _ _ _ _ (by kernel_rfl)]
  go_wp2_with fail
  refine (parts_atom n _).mono ?_
  rintro e w2 ⟨⟨A, c, hc, hs, rfl⟩, hb2⟩
  have HB2 := Lib.hid (HB1.out.trans (hb2.mono HB1.out.size))
  have HS := Lib.hid hs
  have HC := Lib.hid hc
  clear hb2 hs hc
  dsimp only
  go_wp2
  go_ret2
  exact ⟨ta_of (ys := []) (parts_leaf HR.out (.inl HX.out)) HC.out HS.out, HB2.out⟩
set_option maxHeartbeats 2000000 in
set_option maxRecDepth 1000000 in
theorem partsOf_text (a : ByteArray) (w : World) (hr : right a.data.toList = true) (hx : a.data.toList.headD 0 = 116) :
    Calls Try.prog 45 #[.string a] w fun e w' => Ta (parts a.data.toList) e w' ∧ Below w.heap.size w w' := by
  have q0 := nil_no
  have q1 := nil_yes
  have HR := Lib.hid hr
  have HX := Lib.hid hx
  clear hr hx
  go_enter Try.func45, Try.ntmps45
  go_wp2_with (go_at_call 37; refine (whole_any a _).mono ?_; rintro e w1 ⟨ht, hb1⟩; obtain ⟨T, v, hsh, rfl⟩ := ht.pos HR.out; obtain ⟨rfl, n, rfl, _, hl⟩ := hsh.of_text HX.out; have HL := Lib.hid hl; clear hl; have HB1 := Lib.hid hb1; clear hb1 ht hsh; dsimp only)
  rw [method_text _ _ _ _ (by kernel_rfl)]
  go_wp2_with fail
  refine (parts_text n _).mono ?_
  rintro e w2 ⟨⟨A, c, hc, hs, rfl⟩, hb2⟩
  have HB2 := Lib.hid (HB1.out.trans (hb2.mono HB1.out.size))
  have HS := Lib.hid hs
  have HC := Lib.hid hc
  clear hb2 hs hc
  dsimp only
  go_wp2
  go_ret2
  exact ⟨ta_of (ys := []) (parts_leaf HR.out (.inr HX.out)) HC.out HS.out, HB2.out⟩
set_option maxHeartbeats 2000000 in
set_option maxRecDepth 1000000 in
theorem partsOf_hash (a : ByteArray) (w : World) (hr : right a.data.toList = true) (hx : a.data.toList.headD 0 = 104) :
    Calls Try.prog 45 #[.string a] w fun e w' => Ta (parts a.data.toList) e w' ∧ Below w.heap.size w w' := by
  have q0 := nil_no
  have q1 := nil_yes
  have HR := Lib.hid hr
  have HX := Lib.hid hx
  clear hr hx
  go_enter Try.func45, Try.ntmps45
  go_wp2_with (go_at_call 37; refine (whole_any a _).mono ?_; rintro e w1 ⟨ht, hb1⟩; obtain ⟨T, v, hsh, rfl⟩ := ht.pos HR.out; obtain ⟨rfl, X, rfl, hX, hl⟩ := hsh.of_hash HX.out; have HL := Lib.hid hl; have HXX := Lib.hid hX; clear hl hX; have HB1 := Lib.hid hb1; clear hb1 ht hsh; dsimp only)
  rw [method_hash _ _ _ _ (by kernel_rfl)]
  go_wp2_with fail
  refine (parts_hash X _).mono ?_
  rintro e w2 ⟨⟨A, c, hc, hs, rfl⟩, hb2⟩
  have HB2 := Lib.hid (HB1.out.trans (hb2.mono HB1.out.size))
  have HS := Lib.hid hs
  have HC := Lib.hid hc
  clear hb2 hs hc
  dsimp only
  go_wp2
  go_ret2
  exact ⟨ta_of (ys := [X]) (by rw [HL.out]; exact parts_un (by rw [← HL.out]; exact HR.out) rfl HXX.out) HC.out HS.out, HB2.out⟩
set_option maxHeartbeats 2000000 in
set_option maxRecDepth 1000000 in
theorem partsOf_publicOne (a : ByteArray) (w : World) (hr : right a.data.toList = true) (hx : a.data.toList.headD 0 = 117) :
    Calls Try.prog 45 #[.string a] w fun e w' => Ta (parts a.data.toList) e w' ∧ Below w.heap.size w w' := by
  have q0 := nil_no
  have q1 := nil_yes
  have HR := Lib.hid hr
  have HX := Lib.hid hx
  clear hr hx
  go_enter Try.func45, Try.ntmps45
  go_wp2_with (go_at_call 37; refine (whole_any a _).mono ?_; rintro e w1 ⟨ht, hb1⟩; obtain ⟨T, v, hsh, rfl⟩ := ht.pos HR.out; obtain ⟨rfl, X, rfl, hX, hl⟩ := hsh.of_publicOne HX.out; have HL := Lib.hid hl; have HXX := Lib.hid hX; clear hl hX; have HB1 := Lib.hid hb1; clear hb1 ht hsh; dsimp only)
  rw [method_publicOne _ _ _ _ (by kernel_rfl)]
  go_wp2_with fail
  refine (parts_publicOne X _).mono ?_
  rintro e w2 ⟨⟨A, c, hc, hs, rfl⟩, hb2⟩
  have HB2 := Lib.hid (HB1.out.trans (hb2.mono HB1.out.size))
  have HS := Lib.hid hs
  have HC := Lib.hid hc
  clear hb2 hs hc
  dsimp only
  go_wp2
  go_ret2
  exact ⟨ta_of (ys := [X]) (by rw [HL.out]; exact parts_un (by rw [← HL.out]; exact HR.out) rfl HXX.out) HC.out HS.out, HB2.out⟩
set_option maxHeartbeats 2000000 in
set_option maxRecDepth 1000000 in
theorem partsOf_pair (a : ByteArray) (w : World) (hr : right a.data.toList = true) (hx : a.data.toList.headD 0 = 112) :
    Calls Try.prog 45 #[.string a] w fun e w' => Ta (parts a.data.toList) e w' ∧ Below w.heap.size w w' := by
  have q0 := nil_no
  have q1 := nil_yes
  have HR := Lib.hid hr
  have HX := Lib.hid hx
  clear hr hx
  go_enter Try.func45, Try.ntmps45
  go_wp2_with (go_at_call 37; refine (whole_any a _).mono ?_; rintro e w1 ⟨ht, hb1⟩; obtain ⟨T, v, hsh, rfl⟩ := ht.pos HR.out; obtain ⟨rfl, X, Y, rfl, hX, hY, hl⟩ := hsh.of_pair HX.out; have HL := Lib.hid hl; have HXX := Lib.hid hX; have HYY := Lib.hid hY; clear hl hX hY; have HB1 := Lib.hid hb1; clear hb1 ht hsh; dsimp only)
  rw [method_pair _ _ _ _ (by kernel_rfl)]
  go_wp2_with fail
  refine (parts_pair X Y _).mono ?_
  rintro e w2 ⟨⟨A, c, hc, hs, rfl⟩, hb2⟩
  have HB2 := Lib.hid (HB1.out.trans (hb2.mono HB1.out.size))
  have HS := Lib.hid hs
  have HC := Lib.hid hc
  clear hb2 hs hc
  dsimp only
  go_wp2
  go_ret2
  exact ⟨ta_of (ys := [X, Y]) (by rw [HL.out]; exact parts_bi (by rw [← HL.out]; exact HR.out) rfl HXX.out HYY.out) HC.out HS.out, HB2.out⟩
set_option maxHeartbeats 2000000 in
set_option maxRecDepth 1000000 in
theorem partsOf_sealed (a : ByteArray) (w : World) (hr : right a.data.toList = true) (hx : a.data.toList.headD 0 = 115) :
    Calls Try.prog 45 #[.string a] w fun e w' => Ta (parts a.data.toList) e w' ∧ Below w.heap.size w w' := by
  have q0 := nil_no
  have q1 := nil_yes
  have HR := Lib.hid hr
  have HX := Lib.hid hx
  clear hr hx
  go_enter Try.func45, Try.ntmps45
  go_wp2_with (go_at_call 37; refine (whole_any a _).mono ?_; rintro e w1 ⟨ht, hb1⟩; obtain ⟨T, v, hsh, rfl⟩ := ht.pos HR.out; obtain ⟨rfl, X, Y, rfl, hX, hY, hl⟩ := hsh.of_sealed HX.out; have HL := Lib.hid hl; have HXX := Lib.hid hX; have HYY := Lib.hid hY; clear hl hX hY; have HB1 := Lib.hid hb1; clear hb1 ht hsh; dsimp only)
  rw [method_sealed _ _ _ _ (by kernel_rfl)]
  go_wp2_with fail
  refine (parts_sealed X Y _).mono ?_
  rintro e w2 ⟨⟨A, c, hc, hs, rfl⟩, hb2⟩
  have HB2 := Lib.hid (HB1.out.trans (hb2.mono HB1.out.size))
  have HS := Lib.hid hs
  have HC := Lib.hid hc
  clear hb2 hs hc
  dsimp only
  go_wp2
  go_ret2
  exact ⟨ta_of (ys := [X, Y]) (by rw [HL.out]; exact parts_bi (by rw [← HL.out]; exact HR.out) rfl HXX.out HYY.out) HC.out HS.out, HB2.out⟩
set_option maxHeartbeats 2000000 in
set_option maxRecDepth 1000000 in
theorem partsOf_boxed (a : ByteArray) (w : World) (hr : right a.data.toList = true) (hx : a.data.toList.headD 0 = 98) :
    Calls Try.prog 45 #[.string a] w fun e w' => Ta (parts a.data.toList) e w' ∧ Below w.heap.size w w' := by
  have q0 := nil_no
  have q1 := nil_yes
  have HR := Lib.hid hr
  have HX := Lib.hid hx
  clear hr hx
  go_enter Try.func45, Try.ntmps45
  go_wp2_with (go_at_call 37; refine (whole_any a _).mono ?_; rintro e w1 ⟨ht, hb1⟩; obtain ⟨T, v, hsh, rfl⟩ := ht.pos HR.out; obtain ⟨rfl, X, Y, rfl, hX, hY, hl⟩ := hsh.of_boxed HX.out; have HL := Lib.hid hl; have HXX := Lib.hid hX; have HYY := Lib.hid hY; clear hl hX hY; have HB1 := Lib.hid hb1; clear hb1 ht hsh; dsimp only)
  rw [method_boxed _ _ _ _ (by kernel_rfl)]
  go_wp2_with fail
  refine (parts_boxed X Y _).mono ?_
  rintro e w2 ⟨⟨A, c, hc, hs, rfl⟩, hb2⟩
  have HB2 := Lib.hid (HB1.out.trans (hb2.mono HB1.out.size))
  have HS := Lib.hid hs
  have HC := Lib.hid hc
  clear hb2 hs hc
  dsimp only
  go_wp2
  go_ret2
  exact ⟨ta_of (ys := [X, Y]) (by rw [HL.out]; exact parts_bi (by rw [← HL.out]; exact HR.out) rfl HXX.out HYY.out) HC.out HS.out, HB2.out⟩
set_option maxHeartbeats 2000000 in
set_option maxRecDepth 1000000 in
theorem partsOf_signed (a : ByteArray) (w : World) (hr : right a.data.toList = true) (hx : a.data.toList.headD 0 = 103) :
    Calls Try.prog 45 #[.string a] w fun e w' => Ta (parts a.data.toList) e w' ∧ Below w.heap.size w w' := by
  have q0 := nil_no
  have q1 := nil_yes
  have HR := Lib.hid hr
  have HX := Lib.hid hx
  clear hr hx
  go_enter Try.func45, Try.ntmps45
  go_wp2_with (go_at_call 37; refine (whole_any a _).mono ?_; rintro e w1 ⟨ht, hb1⟩; obtain ⟨T, v, hsh, rfl⟩ := ht.pos HR.out; obtain ⟨rfl, X, Y, rfl, hX, hY, hl⟩ := hsh.of_signed HX.out; have HL := Lib.hid hl; have HXX := Lib.hid hX; have HYY := Lib.hid hY; clear hl hX hY; have HB1 := Lib.hid hb1; clear hb1 ht hsh; dsimp only)
  rw [method_signed _ _ _ _ (by kernel_rfl)]
  go_wp2_with fail
  refine (parts_signed X Y _).mono ?_
  rintro e w2 ⟨⟨A, c, hc, hs, rfl⟩, hb2⟩
  have HB2 := Lib.hid (HB1.out.trans (hb2.mono HB1.out.size))
  have HS := Lib.hid hs
  have HC := Lib.hid hc
  clear hb2 hs hc
  dsimp only
  go_wp2
  go_ret2
  exact ⟨ta_of (ys := [X, Y]) (by rw [HL.out]; exact parts_bi (by rw [← HL.out]; exact HR.out) rfl HXX.out HYY.out) HC.out HS.out, HB2.out⟩
set_option maxHeartbeats 1000000 in
theorem t_Parts (a : ByteArray) (w : World) (_ : a.size ≤ 140737488355328) :
    Calls Try.prog 45 #[.string a] w fun e w' => Ta (parts a.data.toList) e w' ∧ Below w.heap.size w w' := by
  cases hr : right a.data.toList with
  | true =>
    rcases heads hr with h | h | h | h | h | h | h | h
    · exact partsOf_atom a w hr h
    · exact partsOf_text a w hr h
    · exact partsOf_hash a w hr h
    · exact partsOf_publicOne a w hr h
    · exact partsOf_pair a w hr h
    · exact partsOf_sealed a w hr h
    · exact partsOf_boxed a w hr h
    · exact partsOf_signed a w hr h
  | false =>
    have q1 := nil_yes
    have HR := Lib.hid hr
    rw [parts_wrong hr]
    clear hr
    go_enter Try.func45, Try.ntmps45
    go_wp2_with (go_at_call 37; refine (whole_any a _).mono ?_; rintro e w1 ⟨ht, hb1⟩; obtain rfl := ht.zero HR.out; have HB1 := Lib.hid hb1; clear hb1 ht)
    go_ret2
    exact ⟨ta_nil _ _, HB1.out⟩
end Go.Proofs.Ytahlilhdiklemaa.Term
