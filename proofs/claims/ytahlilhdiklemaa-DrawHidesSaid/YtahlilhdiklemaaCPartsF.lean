/-
  CONTRACTS of Parts (package term), with one limb more: the slice of parts lies in a block that is new. (Made by program out of TParts1.) By an AI agent; no person has read it.
-/
import Derived.Test.YtahlilhdiklemaaTParts1
namespace Go.Proofs.Ytahlilhdiklemaa.Term
open Go.RowKit Wire

/-- A slice of these strings, in a new block, as an answer. -/
def SlN (H : Nat) (ys : List ByteArray) (e : Ending) (w' : World) : Prop := ∃ (A : Option Addr) (c : Nat), ys.length ≤ c ∧ SReads w' A ys ∧ (∀ b off, A = some ⟨b, off, none⟩ → H ≤ b) ∧ e = .returned (.slice A ys.length c)
/-- Parts' answer, its slice new. -/
def TaN (H : Nat) (x : List (List UInt8) × Int) (e : Ending) (w' : World) : Prop := ∃ (A : Option Addr) (c : Nat) (ys : List ByteArray), bl ys = x.1 ∧ ys.length ≤ c ∧ SReads w' A ys ∧ (∀ b off, A = some ⟨b, off, none⟩ → H ≤ b) ∧ e = .returned (.tuple #[.slice A ys.length c, .int .i64 x.2])
theorem taN_of {H : Nat} {ys : List ByteArray} {x : List (List UInt8) × Int} {w' : World} {A : Option Addr} {c : Nat} (hx : x = (bl ys, 0)) (hc : ys.length ≤ c) (hs : SReads w' A ys) (hf : ∀ b off, A = some ⟨b, off, none⟩ → H ≤ b) : TaN H x (.returned (.tuple #[.slice A ys.length c, .int .i64 0])) w' := by
  subst hx
  exact ⟨A, c, ys, rfl, hc, hs, hf, rfl⟩
theorem partsF_atom (n : Int) (w : World) : Calls Try.prog 90 #[.agg #[.int .u64 n]] w fun e w' => SlN w.heap.size [] e w' ∧ Below w.heap.size w w' := by
  go_enter Try.func90, Try.ntmps90
  go_wp2
  go_ret
  exact ⟨⟨none, 0, Nat.le_refl _, SReads.nil _ _, (fun b off e => by cases e), rfl⟩, (Below.refl _ _).alloc (Nat.le_refl _) _⟩
theorem partsF_text (n : ByteArray) (w : World) : Calls Try.prog 91 #[.agg #[.string n]] w fun e w' => SlN w.heap.size [] e w' ∧ Below w.heap.size w w' := by
  go_enter Try.func91, Try.ntmps91
  go_wp2
  go_ret
  exact ⟨⟨none, 0, Nat.le_refl _, SReads.nil _ _, (fun b off e => by cases e), rfl⟩, (Below.refl _ _).alloc (Nat.le_refl _) _⟩
theorem partsF_hash (P : ByteArray) (w : World) : Calls Try.prog 92 #[.agg #[.string P]] w fun e w' => SlN w.heap.size [P] e w' ∧ Below w.heap.size w w' := by
  go_enter Try.func92, Try.ntmps92
  go_wp2
  go_ret
  exact ⟨⟨_, 1, Nat.le_refl _, one_reads _ P _ (by simp), (fun b off e => by injection e with e; injection e with e1 _ _; rw [← e1]; simp), rfl⟩, below2 (Below.refl _ _) _ _⟩
theorem partsF_publicOne (P : ByteArray) (w : World) : Calls Try.prog 93 #[.agg #[.string P]] w fun e w' => SlN w.heap.size [P] e w' ∧ Below w.heap.size w w' := by
  go_enter Try.func93, Try.ntmps93
  go_wp2
  go_ret
  exact ⟨⟨_, 1, Nat.le_refl _, one_reads _ P _ (by simp), (fun b off e => by injection e with e; injection e with e1 _ _; rw [← e1]; simp), rfl⟩, below2 (Below.refl _ _) _ _⟩
theorem partsF_pair (P Q : ByteArray) (w : World) : Calls Try.prog 94 #[.agg #[.string P, .string Q]] w fun e w' => SlN w.heap.size [P, Q] e w' ∧ Below w.heap.size w w' := by
  go_enter Try.func94, Try.ntmps94
  go_wp2
  go_ret
  exact ⟨⟨_, 2, Nat.le_refl _, pair_reads' _ P Q _ (by simp), (fun b off e => by injection e with e; injection e with e1 _ _; rw [← e1]; simp), rfl⟩, below2 (Below.refl _ _) _ _⟩
theorem partsF_sealed (P Q : ByteArray) (w : World) : Calls Try.prog 95 #[.agg #[.string P, .string Q]] w fun e w' => SlN w.heap.size [P, Q] e w' ∧ Below w.heap.size w w' := by
  go_enter Try.func95, Try.ntmps95
  go_wp2
  go_ret
  exact ⟨⟨_, 2, Nat.le_refl _, pair_reads' _ P Q _ (by simp), (fun b off e => by injection e with e; injection e with e1 _ _; rw [← e1]; simp), rfl⟩, below2 (Below.refl _ _) _ _⟩
theorem partsF_boxed (P Q : ByteArray) (w : World) : Calls Try.prog 97 #[.agg #[.string P, .string Q]] w fun e w' => SlN w.heap.size [P, Q] e w' ∧ Below w.heap.size w w' := by
  go_enter Try.func97, Try.ntmps97
  go_wp2
  go_ret
  exact ⟨⟨_, 2, Nat.le_refl _, pair_reads' _ P Q _ (by simp), (fun b off e => by injection e with e; injection e with e1 _ _; rw [← e1]; simp), rfl⟩, below2 (Below.refl _ _) _ _⟩
theorem partsF_signed (P Q : ByteArray) (w : World) : Calls Try.prog 96 #[.agg #[.string P, .string Q]] w fun e w' => SlN w.heap.size [P, Q] e w' ∧ Below w.heap.size w w' := by
  go_enter Try.func96, Try.ntmps96
  go_wp2
  go_ret
  exact ⟨⟨_, 2, Nat.le_refl _, pair_reads' _ P Q _ (by simp), (fun b off e => by injection e with e; injection e with e1 _ _; rw [← e1]; simp), rfl⟩, below2 (Below.refl _ _) _ _⟩
set_option maxHeartbeats 2000000 in
set_option maxRecDepth 1000000 in
theorem partsOfF_atom (a : ByteArray) (w : World) (hr : right a.data.toList = true) (hx : a.data.toList.headD 0 = 97) :
    Calls Try.prog 45 #[.string a] w fun e w' => TaN w.heap.size (parts a.data.toList) e w' ∧ Below w.heap.size w w' := by
  have q0 := nil_no
  have q1 := nil_yes
  have HR := Lib.hid hr
  have HX := Lib.hid hx
  clear hr hx
  go_enter Try.func45, Try.ntmps45
  go_wp2_with (go_at_call 37; refine (whole_any a _).mono ?_; rintro e w1 ⟨ht, hb1⟩; obtain ⟨T, v, hsh, rfl⟩ := ht.pos HR.out; obtain ⟨rfl, n, rfl, _, hl⟩ := hsh.of_atom HX.out; have HL := Lib.hid hl; clear hl; have HB1 := Lib.hid hb1; clear hb1 ht hsh; dsimp only)
  rw [method_atom _ _ _ _ (by kernel_rfl)]
  go_wp2_with fail
  refine (partsF_atom n _).mono ?_
  rintro e w2 ⟨⟨A, c, hc, hs, hf, rfl⟩, hb2⟩
  have HB2 := Lib.hid (HB1.out.trans (hb2.mono HB1.out.size))
  have HS := Lib.hid hs
  have HC := Lib.hid hc
  have HF : Hid (∀ b off, A = some ⟨b, off, none⟩ → w.heap.size ≤ b) := fun b off e => Nat.le_trans HB1.out.size (hf b off e)
  clear hb2 hs hc hf
  dsimp only
  go_wp2
  go_ret2
  exact ⟨taN_of (ys := []) (parts_leaf HR.out (.inl HX.out)) HC.out HS.out HF.out, HB2.out⟩
set_option maxHeartbeats 2000000 in
set_option maxRecDepth 1000000 in
theorem partsOfF_text (a : ByteArray) (w : World) (hr : right a.data.toList = true) (hx : a.data.toList.headD 0 = 116) :
    Calls Try.prog 45 #[.string a] w fun e w' => TaN w.heap.size (parts a.data.toList) e w' ∧ Below w.heap.size w w' := by
  have q0 := nil_no
  have q1 := nil_yes
  have HR := Lib.hid hr
  have HX := Lib.hid hx
  clear hr hx
  go_enter Try.func45, Try.ntmps45
  go_wp2_with (go_at_call 37; refine (whole_any a _).mono ?_; rintro e w1 ⟨ht, hb1⟩; obtain ⟨T, v, hsh, rfl⟩ := ht.pos HR.out; obtain ⟨rfl, n, rfl, _, hl⟩ := hsh.of_text HX.out; have HL := Lib.hid hl; clear hl; have HB1 := Lib.hid hb1; clear hb1 ht hsh; dsimp only)
  rw [method_text _ _ _ _ (by kernel_rfl)]
  go_wp2_with fail
  refine (partsF_text n _).mono ?_
  rintro e w2 ⟨⟨A, c, hc, hs, hf, rfl⟩, hb2⟩
  have HB2 := Lib.hid (HB1.out.trans (hb2.mono HB1.out.size))
  have HS := Lib.hid hs
  have HC := Lib.hid hc
  have HF : Hid (∀ b off, A = some ⟨b, off, none⟩ → w.heap.size ≤ b) := fun b off e => Nat.le_trans HB1.out.size (hf b off e)
  clear hb2 hs hc hf
  dsimp only
  go_wp2
  go_ret2
  exact ⟨taN_of (ys := []) (parts_leaf HR.out (.inr HX.out)) HC.out HS.out HF.out, HB2.out⟩
set_option maxHeartbeats 2000000 in
set_option maxRecDepth 1000000 in
theorem partsOfF_hash (a : ByteArray) (w : World) (hr : right a.data.toList = true) (hx : a.data.toList.headD 0 = 104) :
    Calls Try.prog 45 #[.string a] w fun e w' => TaN w.heap.size (parts a.data.toList) e w' ∧ Below w.heap.size w w' := by
  have q0 := nil_no
  have q1 := nil_yes
  have HR := Lib.hid hr
  have HX := Lib.hid hx
  clear hr hx
  go_enter Try.func45, Try.ntmps45
  go_wp2_with (go_at_call 37; refine (whole_any a _).mono ?_; rintro e w1 ⟨ht, hb1⟩; obtain ⟨T, v, hsh, rfl⟩ := ht.pos HR.out; obtain ⟨rfl, X, rfl, hX, hl⟩ := hsh.of_hash HX.out; have HL := Lib.hid hl; have HXX := Lib.hid hX; clear hl hX; have HB1 := Lib.hid hb1; clear hb1 ht hsh; dsimp only)
  rw [method_hash _ _ _ _ (by kernel_rfl)]
  go_wp2_with fail
  refine (partsF_hash X _).mono ?_
  rintro e w2 ⟨⟨A, c, hc, hs, hf, rfl⟩, hb2⟩
  have HB2 := Lib.hid (HB1.out.trans (hb2.mono HB1.out.size))
  have HS := Lib.hid hs
  have HC := Lib.hid hc
  have HF : Hid (∀ b off, A = some ⟨b, off, none⟩ → w.heap.size ≤ b) := fun b off e => Nat.le_trans HB1.out.size (hf b off e)
  clear hb2 hs hc hf
  dsimp only
  go_wp2
  go_ret2
  exact ⟨taN_of (ys := [X]) (by rw [HL.out]; exact parts_un (by rw [← HL.out]; exact HR.out) rfl HXX.out) HC.out HS.out HF.out, HB2.out⟩
set_option maxHeartbeats 2000000 in
set_option maxRecDepth 1000000 in
theorem partsOfF_publicOne (a : ByteArray) (w : World) (hr : right a.data.toList = true) (hx : a.data.toList.headD 0 = 117) :
    Calls Try.prog 45 #[.string a] w fun e w' => TaN w.heap.size (parts a.data.toList) e w' ∧ Below w.heap.size w w' := by
  have q0 := nil_no
  have q1 := nil_yes
  have HR := Lib.hid hr
  have HX := Lib.hid hx
  clear hr hx
  go_enter Try.func45, Try.ntmps45
  go_wp2_with (go_at_call 37; refine (whole_any a _).mono ?_; rintro e w1 ⟨ht, hb1⟩; obtain ⟨T, v, hsh, rfl⟩ := ht.pos HR.out; obtain ⟨rfl, X, rfl, hX, hl⟩ := hsh.of_publicOne HX.out; have HL := Lib.hid hl; have HXX := Lib.hid hX; clear hl hX; have HB1 := Lib.hid hb1; clear hb1 ht hsh; dsimp only)
  rw [method_publicOne _ _ _ _ (by kernel_rfl)]
  go_wp2_with fail
  refine (partsF_publicOne X _).mono ?_
  rintro e w2 ⟨⟨A, c, hc, hs, hf, rfl⟩, hb2⟩
  have HB2 := Lib.hid (HB1.out.trans (hb2.mono HB1.out.size))
  have HS := Lib.hid hs
  have HC := Lib.hid hc
  have HF : Hid (∀ b off, A = some ⟨b, off, none⟩ → w.heap.size ≤ b) := fun b off e => Nat.le_trans HB1.out.size (hf b off e)
  clear hb2 hs hc hf
  dsimp only
  go_wp2
  go_ret2
  exact ⟨taN_of (ys := [X]) (by rw [HL.out]; exact parts_un (by rw [← HL.out]; exact HR.out) rfl HXX.out) HC.out HS.out HF.out, HB2.out⟩
set_option maxHeartbeats 2000000 in
set_option maxRecDepth 1000000 in
theorem partsOfF_pair (a : ByteArray) (w : World) (hr : right a.data.toList = true) (hx : a.data.toList.headD 0 = 112) :
    Calls Try.prog 45 #[.string a] w fun e w' => TaN w.heap.size (parts a.data.toList) e w' ∧ Below w.heap.size w w' := by
  have q0 := nil_no
  have q1 := nil_yes
  have HR := Lib.hid hr
  have HX := Lib.hid hx
  clear hr hx
  go_enter Try.func45, Try.ntmps45
  go_wp2_with (go_at_call 37; refine (whole_any a _).mono ?_; rintro e w1 ⟨ht, hb1⟩; obtain ⟨T, v, hsh, rfl⟩ := ht.pos HR.out; obtain ⟨rfl, X, Y, rfl, hX, hY, hl⟩ := hsh.of_pair HX.out; have HL := Lib.hid hl; have HXX := Lib.hid hX; have HYY := Lib.hid hY; clear hl hX hY; have HB1 := Lib.hid hb1; clear hb1 ht hsh; dsimp only)
  rw [method_pair _ _ _ _ (by kernel_rfl)]
  go_wp2_with fail
  refine (partsF_pair X Y _).mono ?_
  rintro e w2 ⟨⟨A, c, hc, hs, hf, rfl⟩, hb2⟩
  have HB2 := Lib.hid (HB1.out.trans (hb2.mono HB1.out.size))
  have HS := Lib.hid hs
  have HC := Lib.hid hc
  have HF : Hid (∀ b off, A = some ⟨b, off, none⟩ → w.heap.size ≤ b) := fun b off e => Nat.le_trans HB1.out.size (hf b off e)
  clear hb2 hs hc hf
  dsimp only
  go_wp2
  go_ret2
  exact ⟨taN_of (ys := [X, Y]) (by rw [HL.out]; exact parts_bi (by rw [← HL.out]; exact HR.out) rfl HXX.out HYY.out) HC.out HS.out HF.out, HB2.out⟩
set_option maxHeartbeats 2000000 in
set_option maxRecDepth 1000000 in
theorem partsOfF_sealed (a : ByteArray) (w : World) (hr : right a.data.toList = true) (hx : a.data.toList.headD 0 = 115) :
    Calls Try.prog 45 #[.string a] w fun e w' => TaN w.heap.size (parts a.data.toList) e w' ∧ Below w.heap.size w w' := by
  have q0 := nil_no
  have q1 := nil_yes
  have HR := Lib.hid hr
  have HX := Lib.hid hx
  clear hr hx
  go_enter Try.func45, Try.ntmps45
  go_wp2_with (go_at_call 37; refine (whole_any a _).mono ?_; rintro e w1 ⟨ht, hb1⟩; obtain ⟨T, v, hsh, rfl⟩ := ht.pos HR.out; obtain ⟨rfl, X, Y, rfl, hX, hY, hl⟩ := hsh.of_sealed HX.out; have HL := Lib.hid hl; have HXX := Lib.hid hX; have HYY := Lib.hid hY; clear hl hX hY; have HB1 := Lib.hid hb1; clear hb1 ht hsh; dsimp only)
  rw [method_sealed _ _ _ _ (by kernel_rfl)]
  go_wp2_with fail
  refine (partsF_sealed X Y _).mono ?_
  rintro e w2 ⟨⟨A, c, hc, hs, hf, rfl⟩, hb2⟩
  have HB2 := Lib.hid (HB1.out.trans (hb2.mono HB1.out.size))
  have HS := Lib.hid hs
  have HC := Lib.hid hc
  have HF : Hid (∀ b off, A = some ⟨b, off, none⟩ → w.heap.size ≤ b) := fun b off e => Nat.le_trans HB1.out.size (hf b off e)
  clear hb2 hs hc hf
  dsimp only
  go_wp2
  go_ret2
  exact ⟨taN_of (ys := [X, Y]) (by rw [HL.out]; exact parts_bi (by rw [← HL.out]; exact HR.out) rfl HXX.out HYY.out) HC.out HS.out HF.out, HB2.out⟩
set_option maxHeartbeats 2000000 in
set_option maxRecDepth 1000000 in
theorem partsOfF_boxed (a : ByteArray) (w : World) (hr : right a.data.toList = true) (hx : a.data.toList.headD 0 = 98) :
    Calls Try.prog 45 #[.string a] w fun e w' => TaN w.heap.size (parts a.data.toList) e w' ∧ Below w.heap.size w w' := by
  have q0 := nil_no
  have q1 := nil_yes
  have HR := Lib.hid hr
  have HX := Lib.hid hx
  clear hr hx
  go_enter Try.func45, Try.ntmps45
  go_wp2_with (go_at_call 37; refine (whole_any a _).mono ?_; rintro e w1 ⟨ht, hb1⟩; obtain ⟨T, v, hsh, rfl⟩ := ht.pos HR.out; obtain ⟨rfl, X, Y, rfl, hX, hY, hl⟩ := hsh.of_boxed HX.out; have HL := Lib.hid hl; have HXX := Lib.hid hX; have HYY := Lib.hid hY; clear hl hX hY; have HB1 := Lib.hid hb1; clear hb1 ht hsh; dsimp only)
  rw [method_boxed _ _ _ _ (by kernel_rfl)]
  go_wp2_with fail
  refine (partsF_boxed X Y _).mono ?_
  rintro e w2 ⟨⟨A, c, hc, hs, hf, rfl⟩, hb2⟩
  have HB2 := Lib.hid (HB1.out.trans (hb2.mono HB1.out.size))
  have HS := Lib.hid hs
  have HC := Lib.hid hc
  have HF : Hid (∀ b off, A = some ⟨b, off, none⟩ → w.heap.size ≤ b) := fun b off e => Nat.le_trans HB1.out.size (hf b off e)
  clear hb2 hs hc hf
  dsimp only
  go_wp2
  go_ret2
  exact ⟨taN_of (ys := [X, Y]) (by rw [HL.out]; exact parts_bi (by rw [← HL.out]; exact HR.out) rfl HXX.out HYY.out) HC.out HS.out HF.out, HB2.out⟩
set_option maxHeartbeats 2000000 in
set_option maxRecDepth 1000000 in
theorem partsOfF_signed (a : ByteArray) (w : World) (hr : right a.data.toList = true) (hx : a.data.toList.headD 0 = 103) :
    Calls Try.prog 45 #[.string a] w fun e w' => TaN w.heap.size (parts a.data.toList) e w' ∧ Below w.heap.size w w' := by
  have q0 := nil_no
  have q1 := nil_yes
  have HR := Lib.hid hr
  have HX := Lib.hid hx
  clear hr hx
  go_enter Try.func45, Try.ntmps45
  go_wp2_with (go_at_call 37; refine (whole_any a _).mono ?_; rintro e w1 ⟨ht, hb1⟩; obtain ⟨T, v, hsh, rfl⟩ := ht.pos HR.out; obtain ⟨rfl, X, Y, rfl, hX, hY, hl⟩ := hsh.of_signed HX.out; have HL := Lib.hid hl; have HXX := Lib.hid hX; have HYY := Lib.hid hY; clear hl hX hY; have HB1 := Lib.hid hb1; clear hb1 ht hsh; dsimp only)
  rw [method_signed _ _ _ _ (by kernel_rfl)]
  go_wp2_with fail
  refine (partsF_signed X Y _).mono ?_
  rintro e w2 ⟨⟨A, c, hc, hs, hf, rfl⟩, hb2⟩
  have HB2 := Lib.hid (HB1.out.trans (hb2.mono HB1.out.size))
  have HS := Lib.hid hs
  have HC := Lib.hid hc
  have HF : Hid (∀ b off, A = some ⟨b, off, none⟩ → w.heap.size ≤ b) := fun b off e => Nat.le_trans HB1.out.size (hf b off e)
  clear hb2 hs hc hf
  dsimp only
  go_wp2
  go_ret2
  exact ⟨taN_of (ys := [X, Y]) (by rw [HL.out]; exact parts_bi (by rw [← HL.out]; exact HR.out) rfl HXX.out HYY.out) HC.out HS.out HF.out, HB2.out⟩
theorem t_PartsF (a : ByteArray) (w : World) (hr : right a.data.toList = true) :
    Calls Try.prog 45 #[.string a] w fun e w' => TaN w.heap.size (parts a.data.toList) e w' ∧ Below w.heap.size w w' := by
  rcases heads hr with h | h | h | h | h | h | h | h
  · exact partsOfF_atom a w hr h
  · exact partsOfF_text a w hr h
  · exact partsOfF_hash a w hr h
  · exact partsOfF_publicOne a w hr h
  · exact partsOfF_pair a w hr h
  · exact partsOfF_sealed a w hr h
  · exact partsOfF_boxed a w hr h
  · exact partsOfF_signed a w hr h
end Go.Proofs.Ytahlilhdiklemaa.Term
