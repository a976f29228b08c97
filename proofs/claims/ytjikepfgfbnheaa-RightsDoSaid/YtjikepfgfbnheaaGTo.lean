/-
  WHAT PACKAGE rights IS HELD TO, of rights that are known to come to something. By an AI agent; no person has read it.
-/
import Derived.Test.YtjikepfgfbnheaaGDone
import Derived.Test.YtjikepfgfbnheaaGTheory
namespace Go.Proofs.Ytjikepfgfbnheaa.Rig
open Go.RowKit Wire

theorem grant_to (GO : GrantOK) {r s : Rt} {u : ByteArray} {wr : Bool} {e : Int} (h : gr r u.data.toList wr = (s, e)) (hf : Few r) (hu : u.size ≤ 5000) (v : Value) (w : World) (gs : List Nat) (hg : ∀ g ∈ gs, g < w.heap.size) (hx : IsX (Off gs) w v r) :
    Calls Try.prog 12 #[v, .string u, .bool wr] w fun en w' => Re (Off gs) (s, e) en w' ∧ Below w.heap.size w w' := by
  have h2 := GO gs v r u wr w hg hx hf hu
  rw [h] at h2
  exact h2
theorem revoke_to (RO : RevokeOK) {r s : Rt} {u : ByteArray} {e : Int} (h : rv r u.data.toList = (s, e)) (hf : Few r) (hu : u.size ≤ 5000) (v : Value) (w : World) (gs : List Nat) (hg : ∀ g ∈ gs, g < w.heap.size) (hx : IsX (Off gs) w v r) :
    Calls Try.prog 14 #[v, .string u] w fun en w' => Re (Off gs) (s, e) en w' ∧ Below w.heap.size w w' := by
  have h2 := RO gs v r u w hg hx hf hu
  rw [h] at h2
  exact h2
theorem can_to (CO : CanOK) {r : Rt} {u : ByteArray} {wr b : Bool} (h : can r u.data.toList wr = b) (hf : Few r) (hu : u.size ≤ 5000) (v : Value) (w : World) (hx : IsR w v r) :
    Calls Try.prog 25 #[v, .string u, .bool wr] w fun en w' => en = .returned (.bool b) ∧ Below w.heap.size w w' := by
  have h2 := CO v r u wr w hx hf hu
  rw [h] at h2
  exact h2
theorem right_to (RG : RightOK) {r : Rt} {b : Bool} (h : decide (RR r) = b) (hf : Few r) (v : Value) (w : World) (hx : IsR w v r) :
    Calls Try.prog 23 #[v] w fun en w' => en = .returned (.bool b) ∧ Below w.heap.size w w' := by
  have h2 := RG v r w hx hf
  rw [h] at h2
  exact h2
theorem put_to (PO : PutOK) {r : Rt} {t : Tm} {e : Int} (h : putR r = (t, e)) (hf : Few r) (v : Value) (w : World) (hx : IsR w v r) :
    Calls Try.prog 16 #[v] w fun en w' => Srt (t, e) en ∧ Below w.heap.size w w' := by
  have h2 := PO v r w hx hf
  rw [h] at h2
  exact h2
theorem new_to (NO : NewOK) (w : World) (gs : List Nat) (hg : ∀ g ∈ gs, g < w.heap.size) :
    Calls Try.prog 20 #[.string ⟨#[97, 110, 110, 97]⟩, .string ⟨#[110, 111, 116, 101, 115]⟩] w fun en w' => Re (Off gs) (r0, 0) en w' ∧ Below w.heap.size w w' := by
  have h2 := NO gs annaB notesB w hg (by decide) (by decide)
  rw [new0] at h2
  exact h2
/-- Which of the eight a number is of. -/
theorem who_to (c : Int) (hc : -9223372036854775808 ≤ c ∧ c ≤ 9223372036854775807) : ∃ U : ByteArray, (∀ w, Calls Try.prog 27 #[.int .i64 c] w fun e w' => e = .returned (.string U) ∧ Below w.heap.size w w') ∧ nm U.data.toList = true ∧ U.size ≤ 5000 ∧ whoN (pk c 8) = U :=
  ⟨_, fun w => who_any c w hc, who_right (pk_lt c (by decide)), by have := who_size (pk c 8); omega, rfl⟩
theorem who_at {m : Nat} (hm : m < 8) (w : World) : Calls Try.prog 27 #[.int .i64 (m : Int)] w fun e w' => e = .returned (.string (whoN m)) ∧ Below w.heap.size w w' := by
  have h := who_any (m : Int) w (by omega)
  rw [pk_small hm] at h
  exact h
theorem gr_few {r s : Rt} {u : Tm} {wr : Bool} {e : Int} (h : gr r u wr = (s, e)) : Few s := by
  rcases gr_right h with ⟨_, _, h, _⟩ | ⟨rfl, _⟩
  · exact few_right h
  · exact few_zero
theorem rv_few {r s : Rt} {u : Tm} {e : Int} (h : rv r u = (s, e)) : Few s := by
  rcases rv_right h with ⟨_, _, h, _⟩ | ⟨rfl, _⟩
  · exact few_right h
  · exact few_zero
/-- Done, as it comes. -/
theorem done_to (a : Option Addr) (n c : Nat) (Z : Nat → Nat → Int) (w0 : World) (ha : Acts.AReads 2 w0 a n Z) (w : World) (hb : Below w0.heap.size w0 w) (gs : List Nat) (hg : ∀ g ∈ gs, g < w.heap.size) :
    Calls Try.prog 29 #[.slice a n c] w fun e w' => DoneE gs e w' ∧ Below w.heap.size w w' :=
  done7_any a n c Z gs w (ha.below hb (Nat.le_refl _)) hg
/-- Rights of nobody else. -/
def rE (k : Nat) : Rt := ⟨annaB.data.toList, notesB.data.toList, k, [], []⟩
theorem rrE {k : Nat} (h : k ≤ 7) : RR (rE k) := by
  obtain ⟨a1, a2, _, a4, a5, a6, a7⟩ := rr0
  exact ⟨a1, a2, ⟨by show (0 : Int) ≤ k; omega, by show (k : Int) ≤ 7; omega⟩, a4, a5, a6, a7⟩
theorem grE {k : Nat} (h : k ≤ 7) {u : Tm} (hu : nm u = true) (ho : u ≠ annaB.data.toList) (wr : Bool) : ∃ s, gr (rE k) u wr = (s, 0) := by
  rcases gr_cases (rE k) u wr (rrE h) hu with ⟨_, h1⟩ | ⟨_, _, h2⟩ | ⟨_, _, e, _⟩
  · rcases h1 with h1 | h1 | h1
    · exact absurd h1 ho
    · exact (List.not_mem_nil h1).elim
    · exact (List.not_mem_nil h1).elim
  · exact absurd (show (0 : Nat) = 5 from h2) (by decide)
  · rcases e with ⟨_, e⟩ | ⟨_, e⟩ <;> exact ⟨_, e⟩
theorem rvE {k : Nat} (h : k ≤ 7) {u : Tm} (hu : nm u = true) : rv (rE k) u = (zero, 4) := by
  rcases rv_cases (rE k) u (rrE h) hu with ⟨e, _⟩ | ⟨_, h1, _⟩ | ⟨h1, _⟩
  · exact e
  · rcases h1 with h1 | h1 <;> exact (List.not_mem_nil h1).elim
  · rcases h1 with h1 | h1 <;> exact (List.not_mem_nil h1).elim
theorem who_anna {m : Nat} (hm : m < 8) (h0 : m ≠ 0) : (whoN m).data.toList ≠ annaB.data.toList := fun h => h0 (who_inj hm (j := 0) (by decide) h)
/-- Whether a number is even. -/
theorem par (k : Nat) : (((k : Int).tmod 2 = 0 ∧ (k : Int) % 2 = 0)) ∨ (((k : Int).tmod 2 = 1 ∧ (k : Int) % 2 = 1)) := by
  have h1 : (k : Int).tmod 2 = (k : Int) % 2 := by rw [show (2 : Int) = ((2 : Nat) : Int) from rfl, ← Int.ofNat_tmod, ← Int.natCast_emod]
  rw [h1]
  omega
end Go.Proofs.Ytjikepfgfbnheaa.Rig
