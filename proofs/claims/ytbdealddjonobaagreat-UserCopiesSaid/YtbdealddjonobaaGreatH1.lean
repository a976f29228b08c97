/-
  One text of several, in their order: GTake, GHelp, GFew, GTheory, GSpec. By an AI agent; no person has read it.
-/
import Derived.Test.YtbdealddjonobaaGreatG3
import Derived.Test.YtbdealddjonobaaGreatG1
/-
  CONTRACT of the document's Take (letterlockref7) at this program. By an AI agent; no person has read it.
-/
namespace Go.Proofs.YtbdealddjonobaaGreat.Rig
open Go.RowKit Wire

set_option linter.unusedSimpArgs false
theorem bl_five {ys : List ByteArray} {a b c d e : Tm} (h : bl ys = [a, b, c, d, e]) : ∃ A B C D E : ByteArray, ys = [A, B, C, D, E] ∧ A.data.toList = a ∧ B.data.toList = b ∧ C.data.toList = c ∧ D.data.toList = d ∧ E.data.toList = e := by
  match ys, h with
  | [A, B, C, D, E], h =>
    simp only [bl, List.map_cons, List.map_nil, List.cons.injEq, and_true] at h
    exact ⟨A, B, C, D, E, rfl, h⟩
theorem mem_flat {t : Tm} : ∀ {l : List Tm}, t ∈ l → t.length ≤ (l.flatMap putText).length
  | x :: l, h => by
    rw [List.flatMap_cons, List.length_append]
    rcases List.mem_cons.1 h with rfl | h
    · rw [putText_len]; omega
    · have := mem_flat h; omega
/-- What TakeAll takes is no longer than what it is taken of; there are as many at most as are allowed. -/
theorem all_few {l : Tm} {a b : Int} {x : List Tm} {e : Int} (h : all l a b = (x, e)) : (x.length : Int) ≤ max a 0 ∧ ∀ t ∈ x, t.length ≤ l.length := by
  obtain ⟨h1, h2⟩ := all_back h
  by_cases he : e = 0
  · obtain ⟨h3, _⟩ := h1 he
    refine ⟨?_, fun t ht => ?_⟩
    · subst he
      have h4 : take l = some (x.length, x.flatMap putText) := by
        rw [h3]; exact take_put (by omega) _
      by_cases hb : max a 0 < (x.length : Int)
      · rw [all_big h4 hb] at h
        have := (Prod.mk.inj h).2
        omega
      · omega
    · have h5 := mem_flat ht
      rw [h3]; unfold putAll; rw [List.length_append]; omega
  · rw [h2 he]
    exact ⟨by simp; omega, fun t ht => (List.not_mem_nil ht).elim⟩
theorem five_reads {w : World} {A : Option Addr} {a b c d e : ByteArray} (h : SReads w A [a, b, c, d, e]) : ∃ (g off : Nat), A = some ⟨g, off, none⟩ ∧ g < w.heap.size ∧ w.cell? ⟨g, off, none⟩ = some (.string a) ∧ w.cell? ⟨g, off + 1, none⟩ = some (.string b) ∧ w.cell? ⟨g, off + 2, none⟩ = some (.string c) ∧ w.cell? ⟨g, off + 3, none⟩ = some (.string d) ∧ w.cell? ⟨g, off + 4, none⟩ = some (.string e) := by
  obtain ⟨g, off, e0, hl, c0⟩ := h 0 (by simp)
  have k : ∀ j (hj : j < 5) (y : ByteArray), [a, b, c, d, e].getD j ByteArray.empty = y → w.cell? ⟨g, off + j, none⟩ = some (.string y) := fun j hj y hy => by
    obtain ⟨g2, off2, e2, _, c2⟩ := h j (by simpa using hj)
    rw [e0] at e2
    injection e2 with e2
    injection e2 with e3 e4 _
    subst e3; subst e4
    rw [hy] at c2; exact c2
  exact ⟨g, off, e0, hl, k 0 (by decide) a rfl, k 1 (by decide) b rfl, k 2 (by decide) c rfl, k 3 (by decide) d rfl, k 4 (by decide) e rfl⟩
end Go.Proofs.YtbdealddjonobaaGreat.Rig

/-
  CONTRACTS of the laws' own helpers pick, who (letterlocklaw7) at this program: exact. By an AI agent; no person has read it.
-/
namespace Go.Proofs.YtbdealddjonobaaGreat.Rig
open Go.RowKit Wire

/-- Which of n things a raw number speaks of. -/
def pk (c : Int) (n : Nat) : Nat := (if c < 0 then (-(c + 1)).toNat else c.toNat) % n
theorem pk_lt (c : Int) {n : Nat} (hn : 0 < n) : pk c n < n := Nat.mod_lt _ hn
theorem pk_small {k n : Nat} (h : k < n) : pk (k : Int) n = k := by
  unfold pk
  rw [if_neg (by omega), show ((k : Int)).toNat = k by omega, Nat.mod_eq_of_lt h]
set_option maxHeartbeats 1000000 in
theorem pick7_any (c : Int) (n : Nat) (w : World) (hc : -9223372036854775808 ≤ c ∧ c ≤ 9223372036854775807) (hn : 0 < n) (hn2 : n ≤ 9223372036854775807) :
    Calls Tryz.prog 15 #[.int .i64 c, .int .i64 (n : Int)] w fun e w' => e = .returned (.int .i64 (pk c n : Int)) ∧ w' = w := by
  obtain ⟨hc1, hc2⟩ := hc
  have hn0 : (0 : Int) < (n : Int) := by omega
  by_cases hneg : c < 0
  · obtain ⟨q, hq⟩ : ∃ q : Nat, c + 1 = -(q : Int) := ⟨(-(c + 1)).toNat, by omega⟩
    obtain ⟨K, hK⟩ : ∃ K : Nat, q % n = K := ⟨_, rfl⟩
    have hrem : (c + 1).tmod (n : Int) = -(K : Int) := by rw [hq, Int.neg_tmod, ← Int.ofNat_tmod, hK]
    have hpk : Hid (pk c n = K) := by
      show pk c n = K
      unfold pk
      rw [if_pos hneg, show (-(c + 1)).toNat = q by omega, hK]
    clear hq hK
    go_enter Tryz.func15, Tryz.ntmps15
    go_wp2
    go_ret
    exact ⟨by rw [hpk.out]; simp, rfl⟩
  · obtain ⟨q, hq⟩ : ∃ q : Nat, c = (q : Int) := ⟨c.toNat, by omega⟩
    obtain ⟨K, hK⟩ : ∃ K : Nat, q % n = K := ⟨_, rfl⟩
    have hrem : c.tmod (n : Int) = (K : Int) := by rw [hq, ← Int.ofNat_tmod, hK]
    have hrem2 : c % (n : Int) = (K : Int) := by rw [hq, ← Int.natCast_emod, hK]
    have hc0 : 0 ≤ c := by omega
    have hpk : Hid (pk c n = K) := by
      show pk c n = K
      unfold pk
      rw [if_neg hneg, show c.toNat = q by omega, hK]
    clear hq hK
    go_enter Tryz.func15, Tryz.ntmps15
    go_wp2
    go_ret
    exact ⟨by rw [hpk.out]; rfl, rfl⟩
/-- One of eight names. -/
def whoB : List ByteArray := [⟨#[97, 110, 110, 97]⟩, ⟨#[98, 101, 110]⟩, ⟨#[99, 121]⟩, ⟨#[100, 111, 114, 97]⟩, ⟨#[101, 109, 105, 108]⟩, ⟨#[195, 164, 109, 105, 108]⟩, ⟨#[102, 97, 45, 49]⟩, ⟨#[103]⟩]
def whoN (m : Nat) : ByteArray := whoB.getD m ByteArray.empty
theorem who_right {m : Nat} (h : m < 8) : nm (whoN m).data.toList = true := by
  have : m = 0 ∨ m = 1 ∨ m = 2 ∨ m = 3 ∨ m = 4 ∨ m = 5 ∨ m = 6 ∨ m = 7 := by omega
  rcases this with rfl | rfl | rfl | rfl | rfl | rfl | rfl | rfl <;> decide +kernel
theorem who_inj {i j : Nat} (hi : i < 8) (hj : j < 8) (h : (whoN i).data.toList = (whoN j).data.toList) : i = j := by
  have : ∀ a : Fin 8, ∀ b : Fin 8, (whoN a.1).data.toList = (whoN b.1).data.toList → a.1 = b.1 := by decide +kernel
  exact this ⟨i, hi⟩ ⟨j, hj⟩ h
theorem who_size (m : Nat) : (whoN m).size ≤ 5 := by
  by_cases h : m < 8
  · have : ∀ a : Fin 8, (whoN a.1).size ≤ 5 := by decide +kernel
    exact this ⟨m, h⟩
  · have e : whoN m = ByteArray.empty := by
      unfold whoN
      rw [List.getD_eq_getElem?_getD, List.getElem?_eq_none (show whoB.length ≤ m by show 8 ≤ m; omega)]
      rfl
    rw [e]; decide
set_option maxHeartbeats 2000000 in
set_option maxRecDepth 1000000 in
theorem who_any (c : Int) (w : World) (hc : -9223372036854775808 ≤ c ∧ c ≤ 9223372036854775807) :
    Calls Tryz.prog 40 #[.int .i64 c] w fun e w' => e = .returned (.string (whoN (pk c 8))) ∧ Below w.heap.size w w' := by
  have hlt := pk_lt c (n := 8) (by decide)
  obtain ⟨m, hm⟩ : ∃ m, pk c 8 = m := ⟨_, rfl⟩
  have HP := Lib.hid fun w => pick7_any c 8 w hc (by decide) (by decide)
  rw [hm] at HP hlt ⊢
  obtain ⟨s, hs⟩ : ∃ s, whoN m = s := ⟨_, rfl⟩
  have HS := Lib.hid hs
  rw [hs]
  clear hm hs
  go_enter Tryz.func40, Tryz.ntmps40
  go_wp2_with fail
  refine (HP.out _).mono ?_
  rintro e w1 ⟨rfl, rfl⟩
  dsimp only
  have hcell : (w.alloc (.cells (sv whoB).toArray 9)).cell? ⟨w.heap.size, m, none⟩ = some (.string s) := by
    have h : (w.alloc (.cells (sv whoB).toArray 9)).cell? ⟨w.heap.size, m, none⟩ = (sv whoB).toArray[m]? := cell_of_row _ _ _ _ _ (0, 0) (heap_alloc_new w _)
    rw [h, ← HS.out]
    unfold sv whoN
    rw [List.getElem?_toArray, List.getElem?_map, List.getElem?_eq_getElem (show m < whoB.length from hlt)]
    simp [List.getD, show m < whoB.length from hlt]
  have e1 : (sv whoB).toArray = #[.string ⟨#[97, 110, 110, 97]⟩, .string ⟨#[98, 101, 110]⟩, .string ⟨#[99, 121]⟩, .string ⟨#[100, 111, 114, 97]⟩, .string ⟨#[101, 109, 105, 108]⟩, .string ⟨#[195, 164, 109, 105, 108]⟩, .string ⟨#[102, 97, 45, 49]⟩, .string ⟨#[103]⟩] := rfl
  rw [e1] at hcell
  have hlt8 : (m : Int) < 8 := by omega
  have hm0 : (0 : Int) ≤ (m : Int) := by omega
  clear e1
  go_wp2
  go_ret
  exact ⟨rfl, (Below.refl _ _).alloc (Nat.le_refl _) _⟩
end Go.Proofs.YtbdealddjonobaaGreat.Rig

/-
  NO CONTRACT IS WANTED HERE.
-/


/-
  PLAIN FACTS, OF NO PROGRAM: who can what behind a grant and behind a revocation (layer 7). By an AI agent; no person has read it.
-/
namespace Go.Proofs.YtbdealddjonobaaGreat.Rig
open Wire

theorem can_yes {r : Rt} {u : Tm} {wr : Bool} (hr : RR r) (h : u = r.o ∨ u ∈ r.ws ∨ (wr = false ∧ u ∈ r.rs)) : can r u wr = true := decide_eq_true ⟨hr, h⟩
theorem can_no {r : Rt} {u : Tm} {wr : Bool} (h : ¬ (u = r.o ∨ u ∈ r.ws ∨ (wr = false ∧ u ∈ r.rs))) : can r u wr = false := decide_eq_false fun h2 => h h2.2
theorem can_wrong {r : Rt} {u : Tm} {wr : Bool} (h : ¬ RR r) : can r u wr = false := decide_eq_false fun h2 => h h2.1
theorem can_same {r s : Rt} {u : Tm} {wr : Bool} (hr : RR r) (hs : RR s) (h : (u = s.o ∨ u ∈ s.ws ∨ (wr = false ∧ u ∈ s.rs)) ↔ (u = r.o ∨ u ∈ r.ws ∨ (wr = false ∧ u ∈ r.rs))) : can s u wr = can r u wr :=
  decide_eq_decide.2 ⟨fun h2 => ⟨hr, h.1 h2.2⟩, fun h2 => ⟨hs, h.2 h2.2⟩⟩
structure Granted (r s : Rt) (u : Tm) (wr : Bool) : Prop where
  none : can r u false = false
  room : r.rs.length + r.ws.length < 5
  right : RR s
  reads : can s u false = true
  writes : can s u true = wr
  epoch : s.ep = r.ep
  others : ∀ x b, x ≠ u → can s x b = can r x b
  owner : s.o = r.o
  file : s.f = r.f
  more : s.rs.length + s.ws.length = r.rs.length + r.ws.length + 1
  isnt : u ≠ r.o ∧ u ∉ r.rs ∧ u ∉ r.ws
  is : (wr = true ∧ s.rs = r.rs ∧ s.ws = ins u r.ws) ∨ (wr = false ∧ s.rs = ins u r.rs ∧ s.ws = r.ws)
theorem gr_ok {r s : Rt} {u : Tm} {wr : Bool} (hr : RR r) (hu : nm u = true) (h : gr r u wr = (s, 0)) : Granted r s u wr := by
  rcases gr_cases r u wr hr hu with ⟨e, _⟩ | ⟨e, _⟩ | ⟨h1, h2, e, h3⟩
  · rw [h] at e; exact absurd (Prod.mk.inj e).2 (by decide)
  · rw [h] at e; exact absurd (Prod.mk.inj e).2 (by decide)
  rw [h] at h3
  simp only at h3
  have n1 : u ≠ r.o := fun e => h1 (.inl e)
  have n2 : u ∉ r.rs := fun e => h1 (.inr (.inl e))
  have n3 : u ∉ r.ws := fun e => h1 (.inr (.inr e))
  have hn : can r u false = false := can_no (by rintro (h | h | ⟨_, h⟩); exact n1 h; exact n3 h; exact n2 h)
  rcases e with ⟨rfl, e⟩ | ⟨rfl, e⟩
  · rw [h] at e
    have es := (Prod.mk.inj e).1
    subst es
    refine ⟨hn, h2, h3, can_yes h3 (.inr (.inl (mem_ins.2 (.inl rfl)))), can_yes h3 (.inr (.inl (mem_ins.2 (.inl rfl)))), rfl, fun x b hx => can_same hr h3 ?_, rfl, rfl, by simp only [ins_len]; omega, ⟨n1, n2, n3⟩, .inl ⟨rfl, rfl, rfl⟩⟩
    simp only [mem_ins]
    exact ⟨fun h => h.imp_right fun h => h.imp_left fun h => h.resolve_left hx, fun h => h.imp_right fun h => h.imp_left .inr⟩
  · rw [h] at e
    have es := (Prod.mk.inj e).1
    subst es
    refine ⟨hn, h2, h3, can_yes h3 (.inr (.inr ⟨rfl, mem_ins.2 (.inl rfl)⟩)), can_no ?_, rfl, fun x b hx => can_same hr h3 ?_, rfl, rfl, by simp only [ins_len]; omega, ⟨n1, n2, n3⟩, .inr ⟨rfl, rfl, rfl⟩⟩
    · rintro (h | h | ⟨h, _⟩)
      · exact n1 h
      · exact n3 h
      · cases h
    · simp only [mem_ins]
      exact ⟨fun h => h.imp_right fun h => h.imp_right fun h => ⟨h.1, h.2.resolve_left hx⟩, fun h => h.imp_right fun h => h.imp_right fun h => ⟨h.1, .inr h.2⟩⟩
theorem gr_there {r s : Rt} {u : Tm} {wr : Bool} (hr : RR r) (hu : nm u = true) (h : gr r u wr = (s, 5)) : s = zero ∧ can r u false = true := by
  rcases gr_cases r u wr hr hu with ⟨e, h1⟩ | ⟨e, _⟩ | ⟨_, _, e, _⟩
  · rw [h] at e
    refine ⟨(Prod.mk.inj e).1, can_yes hr ?_⟩
    rcases h1 with h1 | h1 | h1
    · exact .inl h1
    · exact .inr (.inr ⟨rfl, h1⟩)
    · exact .inr (.inl h1)
  · rw [h] at e; exact absurd (Prod.mk.inj e).2 (by decide)
  · rcases e with ⟨_, e⟩ | ⟨_, e⟩ <;> (rw [h] at e; exact absurd (Prod.mk.inj e).2 (by decide))
theorem gr_full {r s : Rt} {u : Tm} {wr : Bool} (hr : RR r) (hu : nm u = true) (h : gr r u wr = (s, 10)) : s = zero ∧ can r u false = false ∧ r.rs.length + r.ws.length = 5 := by
  rcases gr_cases r u wr hr hu with ⟨e, _⟩ | ⟨e, h1, h2⟩ | ⟨_, _, e, _⟩
  · rw [h] at e; exact absurd (Prod.mk.inj e).2 (by decide)
  · rw [h] at e
    exact ⟨(Prod.mk.inj e).1, can_no (by rintro (h | h | ⟨_, h⟩); exact h1 (.inl h); exact h1 (.inr (.inr h)); exact h1 (.inr (.inl h))), h2⟩
  · rcases e with ⟨_, e⟩ | ⟨_, e⟩ <;> (rw [h] at e; exact absurd (Prod.mk.inj e).2 (by decide))
structure Revoked (r s : Rt) (u : Tm) : Prop where
  could : can r u false = true
  other : u ≠ r.o
  epochs : r.ep < 7
  right : RR s
  no : ∀ b, can s u b = false
  epoch : s.ep = r.ep + 1
  others : ∀ x b, x ≠ u → can s x b = can r x b
  is : s = ⟨r.o, r.f, r.ep + 1, del u r.rs, del u r.ws⟩
theorem not_owner {r : Rt} (hr : RR r) {u : Tm} (h : u ∈ r.rs ∨ u ∈ r.ws) : u ≠ r.o := by
  rcases h with h | h
  · exact (hr.2.2.2.2.1.1 u h).2
  · exact (hr.2.2.2.2.2.1.1 u h).2
theorem rv_ok {r s : Rt} {u : Tm} (hr : RR r) (hu : nm u = true) (h : rv r u = (s, 0)) : Revoked r s u := by
  rcases rv_cases r u hr hu with ⟨e, _⟩ | ⟨e, _⟩ | ⟨h1, h2, e, h3⟩
  · rw [h] at e; exact absurd (Prod.mk.inj e).2 (by decide)
  · rw [h] at e; exact absurd (Prod.mk.inj e).2 (by decide)
  rw [h] at h3 e
  have es := (Prod.mk.inj e).1
  subst es
  simp only at h3
  have n1 := not_owner hr h1
  refine ⟨can_yes hr ?_, n1, h2, h3, fun b => can_no ?_, rfl, fun x b hx => can_same hr h3 ?_, rfl⟩
  · rcases h1 with h1 | h1
    · exact .inr (.inr ⟨rfl, h1⟩)
    · exact .inr (.inl h1)
  · rintro (h | h | ⟨_, h⟩)
    · exact n1 h
    · exact (mem_del.1 h).2 rfl
    · exact (mem_del.1 h).2 rfl
  · simp only [mem_del]
    exact ⟨fun h => h.imp_right fun h => h.imp (fun h => h.1) fun h => ⟨h.1, h.2.1⟩, fun h => h.imp_right fun h => h.imp (fun h => ⟨h, hx⟩) fun h => ⟨h.1, h.2, hx⟩⟩
theorem rv_none {r s : Rt} {u : Tm} (hr : RR r) (hu : nm u = true) (h : rv r u = (s, 4)) : s = zero ∧ ((u = r.o ∧ can r u false = true) ∨ (u ≠ r.o ∧ can r u false = false)) := by
  rcases rv_cases r u hr hu with ⟨e, h1, h2⟩ | ⟨e, _⟩ | ⟨_, _, e, _⟩
  · rw [h] at e
    refine ⟨(Prod.mk.inj e).1, ?_⟩
    by_cases ho : u = r.o
    · exact .inl ⟨ho, can_yes hr (.inl ho)⟩
    · exact .inr ⟨ho, can_no (by rintro (h | h | ⟨_, h⟩); exact ho h; exact h2 h; exact h1 h)⟩
  · rw [h] at e; exact absurd (Prod.mk.inj e).2 (by decide)
  · rw [h] at e; exact absurd (Prod.mk.inj e).2 (by decide)
theorem rv_end {r s : Rt} {u : Tm} (hr : RR r) (hu : nm u = true) (h : rv r u = (s, 9)) : s = zero ∧ can r u false = true ∧ u ≠ r.o ∧ r.ep = 7 := by
  rcases rv_cases r u hr hu with ⟨e, _⟩ | ⟨e, h1, h2⟩ | ⟨_, _, e, _⟩
  · rw [h] at e; exact absurd (Prod.mk.inj e).2 (by decide)
  · rw [h] at e
    refine ⟨(Prod.mk.inj e).1, can_yes hr ?_, not_owner hr h1, h2⟩
    rcases h1 with h1 | h1
    · exact .inr (.inr ⟨rfl, h1⟩)
    · exact .inr (.inl h1)
  · rw [h] at e; exact absurd (Prod.mk.inj e).2 (by decide)
/-- Revoked behind a grant: as they were, one epoch later. -/
theorem rv_gr {r s : Rt} {u : Tm} {wr : Bool} (h : Granted r s u wr) (hu : nm u = true) : (r.ep = 7 ∧ rv s u = (zero, 9)) ∨ (r.ep < 7 ∧ rv s u = (⟨r.o, r.f, r.ep + 1, r.rs, r.ws⟩, 0)) := by
  have hin : u ∈ s.rs ∨ u ∈ s.ws := by
    rcases h.is with ⟨_, _, e⟩ | ⟨_, e, _⟩
    · exact .inr (by rw [e]; exact mem_ins.2 (.inl rfl))
    · exact .inl (by rw [e]; exact mem_ins.2 (.inl rfl))
  rcases rv_cases s u h.right hu with ⟨_, h1, h2⟩ | ⟨e, _, h2⟩ | ⟨_, h2, e, _⟩
  · rcases hin with h3 | h3
    · exact absurd h3 h1
    · exact absurd h3 h2
  · exact .inl ⟨by rw [← h.epoch]; exact h2, e⟩
  · refine .inr ⟨by rw [← h.epoch]; exact h2, ?_⟩
    rw [e, h.owner, h.file, h.epoch]
    rcases h.is with ⟨_, e1, e2⟩ | ⟨_, e1, e2⟩
    · rw [e1, e2, del_ins h.isnt.2.2, del_not h.isnt.2.1]
    · rw [e1, e2, del_ins h.isnt.2.1, del_not h.isnt.2.2]
theorem rt_eq {a b : Rt} (h1 : a.o = b.o) (h2 : a.f = b.f) (h3 : a.ep = b.ep) (h4 : a.rs = b.rs) (h5 : a.ws = b.ws) : a = b := by
  cases a; cases b; simp only at h1 h2 h3 h4 h5; subst h1; subst h2; subst h3; subst h4; subst h5; rfl
/-- Two that are granted, in either order. -/
theorem gr_comm {r s t p q : Rt} {u v : Tm} {x y : Bool} (hs : Granted r s u x) (ht : Granted s t v y) (hp : Granted r p v y) (hq : Granted p q u x) : t = q := by
  have ho : t.o = q.o := by rw [ht.owner, hs.owner, hq.owner, hp.owner]
  have a := hs.is
  have b := ht.is
  have c := hp.is
  have d := hq.is
  refine rt_eq ho (by rw [ht.file, hs.file, hq.file, hp.file]) (by rw [ht.epoch, hs.epoch, hq.epoch, hp.epoch]) ?_ ?_
  · refine lsd_eq (o := t.o) ht.right.2.2.2.2.1 (by rw [ho]; exact hq.right.2.2.2.2.1) fun z => ?_
    cases x <;> cases y <;> (simp only [Bool.false_eq_true, false_and, true_and, false_or, or_false, reduceCtorEq] at a b c d; rw [b.1, a.1, d.1, c.1]; try (simp only [mem_ins]; exact or_left_comm))
  · refine lsd_eq (o := t.o) ht.right.2.2.2.2.2.1 (by rw [ho]; exact hq.right.2.2.2.2.2.1) fun z => ?_
    cases x <;> cases y <;> (simp only [Bool.false_eq_true, false_and, true_and, false_or, or_false, reduceCtorEq] at a b c d; rw [b.2, a.2, d.2, c.2]; try (simp only [mem_ins]; exact or_left_comm))
/-- What an act comes to is right, if it does not err; else it is nothing. -/
theorem gr_right {r s : Rt} {u : Tm} {wr : Bool} {e : Int} (h : gr r u wr = (s, e)) : (RR r ∧ nm u = true ∧ RR s ∧ e = 0) ∨ (s = zero ∧ e ≠ 0) := by
  by_cases hr : RR r
  · by_cases hu : nm u = true
    · rcases gr_cases r u wr hr hu with ⟨e2, _⟩ | ⟨e2, _⟩ | ⟨_, _, e2, h3⟩
      · rw [h] at e2; obtain ⟨rfl, rfl⟩ := Prod.mk.inj e2; exact .inr ⟨rfl, by decide⟩
      · rw [h] at e2; obtain ⟨rfl, rfl⟩ := Prod.mk.inj e2; exact .inr ⟨rfl, by decide⟩
      · rw [h] at h3
        refine .inl ⟨hr, hu, h3, ?_⟩
        rcases e2 with ⟨_, e2⟩ | ⟨_, e2⟩ <;> (rw [h] at e2; exact (Prod.mk.inj e2).2)
    · unfold gr at h
      rw [if_neg (by simpa using hr), if_pos hu] at h
      obtain ⟨rfl, rfl⟩ := Prod.mk.inj h; exact .inr ⟨rfl, by decide⟩
  · unfold gr at h
    rw [if_pos hr] at h
    obtain ⟨rfl, rfl⟩ := Prod.mk.inj h; exact .inr ⟨rfl, by decide⟩
theorem rv_right {r s : Rt} {u : Tm} {e : Int} (h : rv r u = (s, e)) : (RR r ∧ nm u = true ∧ RR s ∧ e = 0) ∨ (s = zero ∧ e ≠ 0) := by
  by_cases hr : RR r
  · by_cases hu : nm u = true
    · rcases rv_cases r u hr hu with ⟨e2, _⟩ | ⟨e2, _⟩ | ⟨_, _, e2, h3⟩
      · rw [h] at e2; obtain ⟨rfl, rfl⟩ := Prod.mk.inj e2; exact .inr ⟨rfl, by decide⟩
      · rw [h] at e2; obtain ⟨rfl, rfl⟩ := Prod.mk.inj e2; exact .inr ⟨rfl, by decide⟩
      · rw [h] at h3
        refine .inl ⟨hr, hu, h3, ?_⟩
        rw [h] at e2; exact (Prod.mk.inj e2).2
    · unfold rv at h
      rw [if_neg (by simpa using hr), if_pos hu] at h
      obtain ⟨rfl, rfl⟩ := Prod.mk.inj h; exact .inr ⟨rfl, by decide⟩
  · unfold rv at h
    rw [if_pos hr] at h
    obtain ⟨rfl, rfl⟩ := Prod.mk.inj h; exact .inr ⟨rfl, by decide⟩
/-- Rights as bytes are not long. -/
theorem row_len {r : Rt} (h : RR r) : (rowR r).length ≤ 2000 := by
  obtain ⟨a1, a2, a3, a4, a5, a6, a7⟩ := h
  have h1 := (Txt.right_len a1).2
  have h2 := (Txt.right_len a2).2
  have h3 := (put_le (n := r.ep.toNat) (by omega)).2
  have h4 := putAll_small (by omega) (lsd_small a5)
  have h5 := putAll_small (by omega) (lsd_small a6)
  have e : rowR r = put 5 ++ (putText r.o ++ (putText r.f ++ (putText (put r.ep.toNat) ++ (putText (putAll r.rs) ++ (putText (putAll r.ws) ++ []))))) := rfl
  have p5 := (put_le (n := 5) (by decide)).2
  have p1 := (put_le (n := r.o.length) (by omega)).2
  have p2 := (put_le (n := r.f.length) (by omega)).2
  have p3 := (put_le (n := (put r.ep.toNat).length) (by omega)).2
  have p4 := (put_le (n := (putAll r.rs).length) (by omega)).2
  have p6 := (put_le (n := (putAll r.ws).length) (by omega)).2
  rw [e]
  simp only [List.length_append, putText_len, List.length_nil]
  omega
theorem putR_right {r : Rt} (h : RR r) : putR r = (rowR r, 0) := by unfold putR; rw [if_pos h]
theorem putR_wrong {r : Rt} (h : ¬ RR r) : putR r = ([], 1) := by unfold putR; rw [if_neg h]
theorem gr_wrong {r : Rt} (h : ¬ RR r) (u : Tm) (wr : Bool) : gr r u wr = (zero, 1) := by unfold gr; rw [if_pos h]
theorem rv_wrong {r : Rt} (h : ¬ RR r) (u : Tm) : rv r u = (zero, 1) := by unfold rv; rw [if_pos h]
end Go.Proofs.YtbdealddjonobaaGreat.Rig

/-
  WHAT PACKAGE rights IS HELD TO, of any rights in memory; the document's answers in the same words; a variable that holds rights. By an AI agent; no person has read it.
-/
namespace Go.Proofs.YtbdealddjonobaaGreat.Rig
open Go.RowKit Wire

/-- A block that is none of these. -/
def Off (gs : List Nat) (b : Nat) : Prop := b ∉ gs
def RightOK : Prop := ∀ (v : Value) (r : Rt) (w : World), IsR w v r → Few r → Calls Tryz.prog 113 #[v] w fun e w' => e = .returned (.bool (decide (RR r))) ∧ Below w.heap.size w w'
def CanOK : Prop := ∀ (v : Value) (r : Rt) (u : ByteArray) (wr : Bool) (w : World), IsR w v r → Few r → u.size ≤ 10000 → Calls Tryz.prog 167 #[v, .string u, .bool wr] w fun e w' => e = .returned (.bool (can r u.data.toList wr)) ∧ Below w.heap.size w w'
def NewOK : Prop := ∀ (gs : List Nat) (o f : ByteArray) (w : World), (∀ g ∈ gs, g < w.heap.size) → o.size ≤ 10000 → f.size ≤ 10000 → Calls Tryz.prog 56 #[.string o, .string f] w fun e w' => Re (Off gs) (new o.data.toList f.data.toList) e w' ∧ Below w.heap.size w w'
def GrantOK : Prop := ∀ (gs : List Nat) (v : Value) (r : Rt) (u : ByteArray) (wr : Bool) (w : World), (∀ g ∈ gs, g < w.heap.size) → IsX (Off gs) w v r → Few r → u.size ≤ 10000 → Calls Tryz.prog 103 #[v, .string u, .bool wr] w fun e w' => Re (Off gs) (gr r u.data.toList wr) e w' ∧ Below w.heap.size w w'
def RevokeOK : Prop := ∀ (gs : List Nat) (v : Value) (r : Rt) (u : ByteArray) (w : World), (∀ g ∈ gs, g < w.heap.size) → IsX (Off gs) w v r → Few r → u.size ≤ 10000 → Calls Tryz.prog 104 #[v, .string u] w fun e w' => Re (Off gs) (rv r u.data.toList) e w' ∧ Below w.heap.size w w'
def PutOK : Prop := ∀ (v : Value) (r : Rt) (w : World), IsR w v r → Few r → Calls Tryz.prog 131 #[v] w fun e w' => Srt (putR r) e ∧ Below w.heap.size w w'
theorem Re.mono {ok ok' : Nat → Prop} {x : Rt × Int} {e : Ending} {w : World} (h : Re ok x e w) (hk : ∀ b, b < w.heap.size → ok b → ok' b) : Re ok' x e w := by
  obtain ⟨v, h1, h2⟩ := h
  exact ⟨v, h1.mono hk, h2⟩
theorem re_fresh {gs : List Nat} {N : Nat} {x : Rt × Int} {e : Ending} {w : World} (h : Re (fun b => N ≤ b) x e w) (hg : ∀ g ∈ gs, g < N) : Re (Off gs) x e w :=
  h.mono fun b _ hb hm => absurd (hg b hm) (Nat.not_lt.2 hb)
theorem isR_open {w : World} {v : Value} {r : Rt} (h : IsR w v r) : ∃ (o f : ByteArray) (ep : Int) (A : Option Addr) (c : Nat) (rs : List ByteArray) (B : Option Addr) (d : Nat) (ws : List ByteArray),
    v = RV o f ep A rs.length c B ws.length d ∧ r = ⟨o.data.toList, f.data.toList, ep, bl rs, bl ws⟩ ∧ SReads w A rs ∧ SReads w B ws := by
  obtain ⟨o, f, A, c, rs, B, d, ws, h1, h2, h3, h4, _, _⟩ := h
  exact ⟨o, f, r.ep, A, c, rs, B, d, ws, h1, h2, h3, h4⟩
/-! ### the document's -/
theorem rright_is (v : Value) (r : Rt) (w : World) (h : IsR w v r) (hf : Few r) : Calls Tryz.prog 35 #[v] w fun e w' => e = .returned (.bool (decide (RR r))) ∧ Below w.heap.size w w' := by
  obtain ⟨o, f, ep, A, c, rs, B, d, ws, rfl, rfl, h3, h4⟩ := isR_open h
  exact rright_any o f ep A c rs B d ws w h3 h4 hf
theorem rcan_is (v : Value) (r : Rt) (u : ByteArray) (wr : Bool) (w : World) (h : IsR w v r) (hf : Few r) : Calls Tryz.prog 42 #[v, .string u, .bool wr] w fun e w' => e = .returned (.bool (can r u.data.toList wr)) ∧ Below w.heap.size w w' := by
  obtain ⟨o, f, ep, A, c, rs, B, d, ws, rfl, rfl, h3, h4⟩ := isR_open h
  exact rcan_any o f ep A c rs B d ws u wr w h3 h4 hf
theorem rput_is (v : Value) (r : Rt) (w : World) (h : IsR w v r) (hf : Few r) : Calls Tryz.prog 172 #[v] w fun e w' => Srt (putR r) e ∧ Below w.heap.size w w' := by
  obtain ⟨o, f, ep, A, c, rs, B, d, ws, rfl, rfl, h3, h4⟩ := isR_open h
  exact rput_any o f ep A c rs B d ws w h3 h4 hf
theorem rnew_is (gs : List Nat) (o f : ByteArray) (w : World) (hg : ∀ g ∈ gs, g < w.heap.size) (ho : o.size ≤ 10000) (hf : f.size ≤ 10000) : Calls Tryz.prog 105 #[.string o, .string f] w fun e w' => Re (Off gs) (new o.data.toList f.data.toList) e w' ∧ Below w.heap.size w w' :=
  (rnew_any o f w (by omega) (by omega)).mono fun _ _ h => ⟨re_fresh h.1 hg, h.2⟩
theorem rsame_is (v v' : Value) (r : Rt) (w : World) (h : IsR w v r) (h' : IsR w v' r) (hf : Few r) : Calls Tryz.prog 36 #[v, v'] w fun e w' => e = .returned (.bool true) ∧ Below w.heap.size w w' := by
  obtain ⟨o, f, ep, A, c, rs, B, d, ws, rfl, rfl, h3, h4⟩ := isR_open h
  obtain ⟨o', f', ep', A', c', rs', B', d', ws', rfl, e, h3', h4'⟩ := isR_open h'
  simp only [Rt.mk.injEq] at e
  obtain ⟨e1, e2, rfl, e4, e5⟩ := e
  obtain rfl := str_eq e1
  obtain rfl := str_eq e2
  obtain rfl := bl_inj e4
  obtain rfl := bl_inj e5
  have h1 := hf.2.2.1
  have h2 := hf.2.2.2.1
  simp only [bl_len] at h1 h2
  exact rsame_any o f ep A c rs B d ws A' c' B' d' w h3 h4 h3' h4' (by omega) (by omega)
/-! ### a variable that holds rights -/
theorem isX_len {ok : Nat → Prop} {w : World} {o f : ByteArray} {ep : Int} {A : Option Addr} {n c : Nat} {B : Option Addr} {m d : Nat} {r : Rt} (h : IsX ok w (.agg #[.string o, .string f, .int .i64 ep, .slice A n c, .slice B m d]) r) : n = r.rs.length ∧ m = r.ws.length ∧ ep = r.ep ∧ o.data.toList = r.o ∧ f.data.toList = r.f := by
  obtain ⟨o2, f2, A2, c2, rs, B2, d2, ws, h1, h2, _⟩ := h
  unfold RV at h1
  simp only [Value.agg.injEq, Array.mk.injEq, List.cons.injEq, Value.string.injEq, Value.int.injEq, Value.slice.injEq, true_and, and_true] at h1
  obtain ⟨rfl, rfl, e, ⟨_, rfl, _⟩, _, rfl, _⟩ := h1
  have h3 := congrArg Rt.rs h2
  have h4 := congrArg Rt.ws h2
  have h5 := congrArg Rt.o h2
  have h6 := congrArg Rt.f h2
  simp only at h3 h4 h5 h6
  exact ⟨by rw [h3, bl_len], by rw [h4, bl_len], e, h5.symm, h6.symm⟩
/-- A value that says rights, its parts. -/
theorem isX_lit {ok : Nat → Prop} {w : World} {v : Value} {r : Rt} (h : IsX ok w v r) : ∃ (o f : ByteArray) (ep : Int) (A : Option Addr) (n c : Nat) (B : Option Addr) (m d : Nat), v = .agg #[.string o, .string f, .int .i64 ep, .slice A n c, .slice B m d] ∧
    ep = r.ep ∧ n = r.rs.length ∧ m = r.ws.length ∧ o.data.toList = r.o ∧ f.data.toList = r.f ∧ IsX ok w (.agg #[.string o, .string f, .int .i64 ep, .slice A n c, .slice B m d]) r := by
  obtain ⟨o, f, A, c, rs, B, d, ws, rfl, h2⟩ := id h
  obtain ⟨h3, h4, _, h5, h6⟩ := isX_len (show IsX ok w (.agg #[.string o, .string f, .int .i64 r.ep, .slice A rs.length c, .slice B ws.length d]) r from h)
  exact ⟨o, f, _, A, _, c, B, _, d, rfl, rfl, h3, h4, h5, h6, h⟩
/-- Block g holds these parts, which say rights (it may be written); their lists lie in none of the blocks gs. -/
def HoldL (gs : List Nat) (g : Nat) (w : World) (o f : ByteArray) (ep : Int) (A : Option Addr) (n c : Nat) (B : Option Addr) (m d : Nat) (r : Rt) : Prop :=
  Bx g w o f ep A n c B m d ∧ Sf g w ∧ IsX (Off gs) w (.agg #[.string o, .string f, .int .i64 ep, .slice A n c, .slice B m d]) r
def Hold (gs : List Nat) (g : Nat) (w : World) (r : Rt) : Prop := ∃ (o f : ByteArray) (ep : Int) (A : Option Addr) (n c : Nat) (B : Option Addr) (m d : Nat), HoldL gs g w o f ep A n c B m d r ∧ ep = r.ep ∧ n = r.rs.length ∧ m = r.ws.length ∧ o.data.toList = r.o ∧ f.data.toList = r.f
section
variable {gs : List Nat} {g : Nat} {w w' : World} {o f : ByteArray} {ep : Int} {A : Option Addr} {n c : Nat} {B : Option Addr} {m d : Nat} {r : Rt}
theorem HoldL.lt (h : HoldL gs g w o f ep A n c B m d r) : g < w.heap.size := h.1.2.2.2.2.2
theorem HoldL.isX (h : HoldL gs g w o f ep A n c B m d r) : IsX (Off gs) w (.agg #[.string o, .string f, .int .i64 ep, .slice A n c, .slice B m d]) r := h.2.2
theorem HoldL.isR (h : HoldL gs g w o f ep A n c B m d r) : IsR w (.agg #[.string o, .string f, .int .i64 ep, .slice A n c, .slice B m d]) r := h.2.2.isR
theorem HoldL.shut (h : HoldL gs g w o f ep A n c B m d r) : Hold gs g w r := by
  obtain ⟨h1, h2, h3, h5, h6⟩ := isX_len h.2.2
  exact ⟨o, f, ep, A, n, c, B, m, d, h, h3, h1, h2, h5, h6⟩
theorem HoldL.call (h : HoldL gs g w o f ep A n c B m d r) (hb : Below w.heap.size w w') : HoldL gs g w' o f ep A n c B m d r :=
  ⟨h.1.below hb h.lt, h.2.1.below hb h.lt, h.2.2.below hb (Nat.le_refl _)⟩
theorem HoldL.sub {gs' : List Nat} (h : HoldL gs g w o f ep A n c B m d r) (hs : ∀ b ∈ gs', b ∈ gs) : HoldL gs' g w o f ep A n c B m d r := ⟨h.1, h.2.1, h.2.2.mono fun b _ hb hm => hb (hs b hm)⟩
theorem isX_more {g' : Nat} {v : Value} (h : IsX (Off gs) w v r) (hg : w.heap.size ≤ g') : IsX (Off (g' :: gs)) w v r :=
  h.mono fun b hlt hb hm => by
    rcases List.mem_cons.1 hm with rfl | hm
    · omega
    · exact hb hm
/-- One block more, that is new. -/
theorem HoldL.more {g' : Nat} (h : HoldL gs g w o f ep A n c B m d r) (hg : w.heap.size ≤ g') : HoldL (g' :: gs) g w o f ep A n c B m d r := ⟨h.1, h.2.1, isX_more h.2.2 hg⟩
/-- A new variable. -/
theorem hold_alloc {t : TypeId} (hx : IsX (Off gs) w (.agg #[.string o, .string f, .int .i64 ep, .slice A n c, .slice B m d]) r) : HoldL (w.heap.size :: gs) w.heap.size (w.alloc (.cells #[.string o, .string f, .int .i64 ep, .slice A n c, .slice B m d] t)) o f ep A n c B m d r :=
  ⟨bx_alloc w _ _ _ _ _ _ _ _ _ t, sf_alloc w _ t, (isX_more hx (Nat.le_refl _)).below (al w _) (Nat.le_refl _)⟩
theorem hold_zero (gs : List Nat) (w : World) (t : TypeId) : HoldL (w.heap.size :: gs) w.heap.size (w.alloc (.cells #[.string ⟨#[]⟩, .string ⟨#[]⟩, .int .i64 0, .slice none 0 0, .slice none 0 0] t)) ⟨#[]⟩ ⟨#[]⟩ 0 none 0 0 none 0 0 zero :=
  hold_alloc (gs := gs) (w := w) (o := ⟨#[]⟩) (f := ⟨#[]⟩) (ep := 0) (A := none) (n := 0) (c := 0) (B := none) (m := 0) (d := 0) (r := zero) (t := t) (isX_zero _ _)
theorem HoldL.new {ob : Obj} (h : HoldL gs g w o f ep A n c B m d r) : HoldL (w.heap.size :: gs) g (w.alloc ob) o f ep A n c B m d r := (h.more (Nat.le_refl _)).call (al w ob)
/-- Five stores into a block of gs: rights elsewhere stay. -/
theorem isX_set5 {G : Nat} (hG : G ∈ gs) {v v0 v1 v2 v3 v4 : Value} (h : IsX (Off gs) w v r) : IsX (Off gs) (((((w.setCell ⟨G, 0, none⟩ v0).setCell ⟨G, 1, none⟩ v1).setCell ⟨G, 2, none⟩ v2).setCell ⟨G, 3, none⟩ v3).setCell ⟨G, 4, none⟩ v4) v r := by
  obtain ⟨o, f, A, c, rs, B', d, ws, h1, h2, h3, h4, h5, h6, h7, h8⟩ := h
  refine ⟨o, f, A, c, rs, B', d, ws, h1, h2, sreads_setL5 h3 fun b off e h0 e2 => ?_, sreads_setL5 h4 fun b off e h0 e2 => ?_, h5, h6, h7, h8⟩
  · subst e2; exact h7 b off e h0 hG
  · subst e2; exact h8 b off e h0 hG
theorem cell_set5 {G : Nat} {v0 v1 v2 v3 v4 : Value} {j : Nat} (h : g ≠ G) : (((((w.setCell ⟨G, 0, none⟩ v0).setCell ⟨G, 1, none⟩ v1).setCell ⟨G, 2, none⟩ v2).setCell ⟨G, 3, none⟩ v3).setCell ⟨G, 4, none⟩ v4).cell? ⟨g, j, none⟩ = w.cell? ⟨g, j, none⟩ := by
  have e : ∀ i, (⟨G, i, none⟩ : Addr) ≠ ⟨g, j, none⟩ := fun i e => h (by injection e with e1 _ _; exact e1.symm)
  rw [World.cell?_setCell_other _ _ _ _ (e 4), World.cell?_setCell_other _ _ _ _ (e 3), World.cell?_setCell_other _ _ _ _ (e 2), World.cell?_setCell_other _ _ _ _ (e 1), World.cell?_setCell_other _ _ _ _ (e 0)]
theorem HoldL.set5 {G : Nat} (hG : G ∈ gs) (hne : g ≠ G) {v0 v1 v2 v3 v4 : Value} (h : HoldL gs g w o f ep A n c B m d r) : HoldL gs g (((((w.setCell ⟨G, 0, none⟩ v0).setCell ⟨G, 1, none⟩ v1).setCell ⟨G, 2, none⟩ v2).setCell ⟨G, 3, none⟩ v3).setCell ⟨G, 4, none⟩ v4) o f ep A n c B m d r := by
  obtain ⟨h1, h2, h3⟩ := h
  obtain ⟨b0, b1, b2, b3, b4, b5⟩ := h1
  obtain ⟨f0, f1, f2, f3, f4⟩ := h2
  exact ⟨⟨(cell_set5 hne).trans b0, (cell_set5 hne).trans b1, (cell_set5 hne).trans b2, (cell_set5 hne).trans b3, (cell_set5 hne).trans b4, by simpa [World.setCell] using b5⟩, ⟨by simpa using f0, by simpa using f1, by simpa using f2, by simpa using f3, by simpa using f4⟩, isX_set5 hG h3⟩
/-- The block that is written holds what was stored. -/
theorem hold_set5 {o' f' : ByteArray} {ep' : Int} {A' : Option Addr} {n' c' : Nat} {B' : Option Addr} {m' d' : Nat} {r' : Rt} (hG : g ∈ gs) (h : HoldL gs g w o' f' ep' A' n' c' B' m' d' r') (hx : IsX (Off gs) w (.agg #[.string o, .string f, .int .i64 ep, .slice A n c, .slice B m d]) r) :
    HoldL gs g (((((w.setCell ⟨g, 0, none⟩ (.string o)).setCell ⟨g, 1, none⟩ (.string f)).setCell ⟨g, 2, none⟩ (.int .i64 ep)).setCell ⟨g, 3, none⟩ (.slice A n c)).setCell ⟨g, 4, none⟩ (.slice B m d)) o f ep A n c B m d r :=
  ⟨bx_set5 h.1, sf_set5 h.2.1, isX_set5 hG hx⟩
theorem gs_nil : ∀ b ∈ ([] : List Nat), b < w.heap.size := fun _ h => (List.not_mem_nil h).elim
theorem gs_cons (h : g < w.heap.size) (hs : ∀ b ∈ gs, b < w.heap.size) : ∀ b ∈ g :: gs, b < w.heap.size := fun b hb => by
  rcases List.mem_cons.1 hb with rfl | hb
  · exact h
  · exact hs b hb
theorem few_zero' : Few zero := few_zero
end
end Go.Proofs.YtbdealddjonobaaGreat.Rig
