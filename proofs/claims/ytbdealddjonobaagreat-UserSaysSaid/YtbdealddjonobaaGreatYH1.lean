/-
  H1. By an AI agent.
-/
import Derived.Test.YtbdealddjonobaaGreatYZ
import Derived.Test.YtbdealddjonobaaGreatYG3
import Derived.Test.YtbdealddjonobaaGreatYG1
namespace Go.Proofs.YtbdealddjonobaaGreat.Rig
open Go.RowKit Wire

set_option linter.unusedSimpArgs false
end Go.Proofs.YtbdealddjonobaaGreat.Rig

namespace Go.Proofs.YtbdealddjonobaaGreat.Rig
open Go.RowKit Wire

def pk (c : Int) (n : Nat) : Nat := (if c < 0 then (-(c + 1)).toNat else c.toNat) % n
theorem pk_lt (c : Int) {n : Nat} (hn : 0 < n) : pk c n < n := Nat.mod_lt _ hn
theorem pk_small {k n : Nat} (h : k < n) : pk (k : Int) n = k := by
  unfold pk
  rw [if_neg (by omega), show ((k : Int)).toNat = k by omega, Nat.mod_eq_of_lt h]
set_option maxHeartbeats 1000000 in
theorem pick7_any (c : Int) (n : Nat) (w : World) (hc : -9223372036854775808 ≤ c ∧ c ≤ 9223372036854775807) (hn : 0 < n) (hn2 : n ≤ 9223372036854775807) :
    Calls Tryz.prog 15 #[.int .i64 c, .int .i64 (n : Int)] w fun e w' => e = .returned (.int .i64 (pk c n : Int)) ∧ w' = w := by
  obtain ⟨hc1, hc2⟩ := hc
  have hn0 : (0 : Int) < (n : Int) := by omega
  by_cases hneg : c < 0
  · obtain ⟨q, hq⟩ : ∃ q : Nat, c + 1 = -(q : Int) := ⟨(-(c + 1)).toNat, by omega⟩
    obtain ⟨K, hK⟩ : ∃ K : Nat, q % n = K := ⟨_, rfl⟩
    have hrem : (c + 1).tmod (n : Int) = -(K : Int) := by rw [hq, Int.neg_tmod, ← Int.ofNat_tmod, hK]
    have hpk : Hid (pk c n = K) := by
      show pk c n = K
      unfold pk
      rw [if_pos hneg, show (-(c + 1)).toNat = q by omega, hK]
    clear hq hK
    go_enter Tryz.func15, Tryz.ntmps15
    go_wp2
    go_ret
    exact ⟨by rw [hpk.out]; simp, rfl⟩
  · obtain ⟨q, hq⟩ : ∃ q : Nat, c = (q : Int) := ⟨c.toNat, by omega⟩
    obtain ⟨K, hK⟩ : ∃ K : Nat, q % n = K := ⟨_, rfl⟩
    have hrem : c.tmod (n : Int) = (K : Int) := by rw [hq, ← Int.ofNat_tmod, hK]
    have hrem2 : c % (n : Int) = (K : Int) := by rw [hq, ← Int.natCast_emod, hK]
    have hc0 : 0 ≤ c := by omega
    have hpk : Hid (pk c n = K) := by
      show pk c n = K
      unfold pk
      rw [if_neg hneg, show c.toNat = q by omega, hK]
    clear hq hK
    go_enter Tryz.func15, Tryz.ntmps15
    go_wp2
    go_ret
    exact ⟨by rw [hpk.out]; rfl, rfl⟩
def whoB : List ByteArray := [⟨#[97, 110, 110, 97]⟩, ⟨#[98, 101, 110]⟩, ⟨#[99, 121]⟩, ⟨#[100, 111, 114, 97]⟩, ⟨#[101, 109, 105, 108]⟩, ⟨#[195, 164, 109, 105, 108]⟩, ⟨#[102, 97, 45, 49]⟩, ⟨#[103]⟩]
def whoN (m : Nat) : ByteArray := whoB.getD m ByteArray.empty
theorem who_right {m : Nat} (h : m < 8) : nm (whoN m).data.toList = true := by
  have : m = 0 ∨ m = 1 ∨ m = 2 ∨ m = 3 ∨ m = 4 ∨ m = 5 ∨ m = 6 ∨ m = 7 := by omega
  rcases this with rfl | rfl | rfl | rfl | rfl | rfl | rfl | rfl <;> decide +kernel
theorem who_inj {i j : Nat} (hi : i < 8) (hj : j < 8) (h : (whoN i).data.toList = (whoN j).data.toList) : i = j := by
  have : ∀ a : Fin 8, ∀ b : Fin 8, (whoN a.1).data.toList = (whoN b.1).data.toList → a.1 = b.1 := by decide +kernel
  exact this ⟨i, hi⟩ ⟨j, hj⟩ h
theorem who_size (m : Nat) : (whoN m).size ≤ 5 := by
  by_cases h : m < 8
  · have : ∀ a : Fin 8, (whoN a.1).size ≤ 5 := by decide +kernel
    exact this ⟨m, h⟩
  · have e : whoN m = ByteArray.empty := by
      unfold whoN
      rw [List.getD_eq_getElem?_getD, List.getElem?_eq_none (show whoB.length ≤ m by show 8 ≤ m; omega)]
      rfl
    rw [e]; decide
set_option maxHeartbeats 2000000 in
set_option maxRecDepth 1000000 in
theorem who_any (c : Int) (w : World) (hc : -9223372036854775808 ≤ c ∧ c ≤ 9223372036854775807) :
    Calls Tryz.prog 40 #[.int .i64 c] w fun e w' => e = .returned (.string (whoN (pk c 8))) ∧ Below w.heap.size w w' := by
  have hlt := pk_lt c (n := 8) (by decide)
  obtain ⟨m, hm⟩ : ∃ m, pk c 8 = m := ⟨_, rfl⟩
  have HP := zh fun w => pick7_any c 8 w hc (by decide) (by decide)
  rw [hm] at HP hlt ⊢
  obtain ⟨s, hs⟩ : ∃ s, whoN m = s := ⟨_, rfl⟩
  have HS := zh hs
  rw [hs]
  clear hm hs
  go_enter Tryz.func40, Tryz.ntmps40
  go_wp2_with fail
  refine (HP.out _).mono ?_
  rintro e w1 ⟨rfl, rfl⟩
  dsimp only
  have hcell : (w.alloc (.cells (sv whoB).toArray 9)).cell? ⟨w.heap.size, m, none⟩ = some (.string s) := by
    have h : (w.alloc (.cells (sv whoB).toArray 9)).cell? ⟨w.heap.size, m, none⟩ = (sv whoB).toArray[m]? := cell_of_row _ _ _ _ _ (0, 0) (heap_alloc_new w _)
    rw [h, ← HS.out]
    unfold sv whoN
    rw [List.getElem?_toArray, List.getElem?_map, List.getElem?_eq_getElem (show m < whoB.length from hlt)]
    simp [List.getD, show m < whoB.length from hlt]
  have e1 : (sv whoB).toArray = #[.string ⟨#[97, 110, 110, 97]⟩, .string ⟨#[98, 101, 110]⟩, .string ⟨#[99, 121]⟩, .string ⟨#[100, 111, 114, 97]⟩, .string ⟨#[101, 109, 105, 108]⟩, .string ⟨#[195, 164, 109, 105, 108]⟩, .string ⟨#[102, 97, 45, 49]⟩, .string ⟨#[103]⟩] := rfl
  rw [e1] at hcell
  have hlt8 : (m : Int) < 8 := by omega
  have hm0 : (0 : Int) ≤ (m : Int) := by omega
  clear e1
  go_wp2
  go_ret
  exact ⟨rfl, (Below.refl _ _).alloc zl _⟩
end Go.Proofs.YtbdealddjonobaaGreat.Rig

namespace Go.Proofs.YtbdealddjonobaaGreat.Rig
open Wire

theorem can_yes {r : Rt} {u : Tm} {wr : Bool} (hr : RR r) (h : u = r.o ∨ u ∈ r.ws ∨ (wr = false ∧ u ∈ r.rs)) : can r u wr = true := decide_eq_true ⟨hr, h⟩
theorem can_no {r : Rt} {u : Tm} {wr : Bool} (h : ¬ (u = r.o ∨ u ∈ r.ws ∨ (wr = false ∧ u ∈ r.rs))) : can r u wr = false := decide_eq_false fun h2 => h h2.2
theorem can_same {r s : Rt} {u : Tm} {wr : Bool} (hr : RR r) (hs : RR s) (h : (u = s.o ∨ u ∈ s.ws ∨ (wr = false ∧ u ∈ s.rs)) ↔ (u = r.o ∨ u ∈ r.ws ∨ (wr = false ∧ u ∈ r.rs))) : can s u wr = can r u wr :=
  decide_eq_decide.2 ⟨fun h2 => ⟨hr, h.1 h2.2⟩, fun h2 => ⟨hs, h.2 h2.2⟩⟩
structure Granted (r s : Rt) (u : Tm) (wr : Bool) : Prop where
  none : can r u false = false
  room : r.rs.length + r.ws.length < 5
  right : RR s
  reads : can s u false = true
  writes : can s u true = wr
  epoch : s.ep = r.ep
  others : ∀ x b, x ≠ u → can s x b = can r x b
  owner : s.o = r.o
  file : s.f = r.f
  more : s.rs.length + s.ws.length = r.rs.length + r.ws.length + 1
  isnt : u ≠ r.o ∧ u ∉ r.rs ∧ u ∉ r.ws
  is : (wr = true ∧ s.rs = r.rs ∧ s.ws = ins u r.ws) ∨ (wr = false ∧ s.rs = ins u r.rs ∧ s.ws = r.ws)
theorem gr_ok {r s : Rt} {u : Tm} {wr : Bool} (hr : RR r) (hu : nm u = true) (h : gr r u wr = (s, 0)) : Granted r s u wr := by
  rcases gr_cases r u wr hr hu with ⟨e, _⟩ | ⟨e, _⟩ | ⟨h1, h2, e, h3⟩
  · rw [h] at e; exact absurd (Prod.mk.inj e).2 (by decide)
  · rw [h] at e; exact absurd (Prod.mk.inj e).2 (by decide)
  rw [h] at h3
  simp only at h3
  have n1 : u ≠ r.o := fun e => h1 (.inl e)
  have n2 : u ∉ r.rs := fun e => h1 (.inr (.inl e))
  have n3 : u ∉ r.ws := fun e => h1 (.inr (.inr e))
  have hn : can r u false = false := can_no (by rintro (h | h | ⟨_, h⟩); exact n1 h; exact n3 h; exact n2 h)
  rcases e with ⟨rfl, e⟩ | ⟨rfl, e⟩
  · rw [h] at e
    have es := (Prod.mk.inj e).1
    subst es
    refine ⟨hn, h2, h3, can_yes h3 (.inr (.inl (mem_ins.2 (.inl rfl)))), can_yes h3 (.inr (.inl (mem_ins.2 (.inl rfl)))), rfl, fun x b hx => can_same hr h3 ?_, rfl, rfl, by simp only [ins_len]; omega, ⟨n1, n2, n3⟩, .inl ⟨rfl, rfl, rfl⟩⟩
    simp only [mem_ins]
    exact ⟨fun h => h.imp_right fun h => h.imp_left fun h => h.resolve_left hx, fun h => h.imp_right fun h => h.imp_left .inr⟩
  · rw [h] at e
    have es := (Prod.mk.inj e).1
    subst es
    refine ⟨hn, h2, h3, can_yes h3 (.inr (.inr ⟨rfl, mem_ins.2 (.inl rfl)⟩)), can_no ?_, rfl, fun x b hx => can_same hr h3 ?_, rfl, rfl, by simp only [ins_len]; omega, ⟨n1, n2, n3⟩, .inr ⟨rfl, rfl, rfl⟩⟩
    · rintro (h | h | ⟨h, _⟩)
      · exact n1 h
      · exact n3 h
      · cases h
    · simp only [mem_ins]
      exact ⟨fun h => h.imp_right fun h => h.imp_right fun h => ⟨h.1, h.2.resolve_left hx⟩, fun h => h.imp_right fun h => h.imp_right fun h => ⟨h.1, .inr h.2⟩⟩
structure Revoked (r s : Rt) (u : Tm) : Prop where
  could : can r u false = true
  other : u ≠ r.o
  epochs : r.ep < 7
  right : RR s
  no : ∀ b, can s u b = false
  epoch : s.ep = r.ep + 1
  others : ∀ x b, x ≠ u → can s x b = can r x b
  is : s = ⟨r.o, r.f, r.ep + 1, del u r.rs, del u r.ws⟩
theorem not_owner {r : Rt} (hr : RR r) {u : Tm} (h : u ∈ r.rs ∨ u ∈ r.ws) : u ≠ r.o := by
  rcases h with h | h
  · exact (hr.2.2.2.2.1.1 u h).2
  · exact (hr.2.2.2.2.2.1.1 u h).2
theorem rv_ok {r s : Rt} {u : Tm} (hr : RR r) (hu : nm u = true) (h : rv r u = (s, 0)) : Revoked r s u := by
  rcases rv_cases r u hr hu with ⟨e, _⟩ | ⟨e, _⟩ | ⟨h1, h2, e, h3⟩
  · rw [h] at e; exact absurd (Prod.mk.inj e).2 (by decide)
  · rw [h] at e; exact absurd (Prod.mk.inj e).2 (by decide)
  rw [h] at h3 e
  have es := (Prod.mk.inj e).1
  subst es
  simp only at h3
  have n1 := not_owner hr h1
  refine ⟨can_yes hr ?_, n1, h2, h3, fun b => can_no ?_, rfl, fun x b hx => can_same hr h3 ?_, rfl⟩
  · rcases h1 with h1 | h1
    · exact .inr (.inr ⟨rfl, h1⟩)
    · exact .inr (.inl h1)
  · rintro (h | h | ⟨_, h⟩)
    · exact n1 h
    · exact (mem_del.1 h).2 rfl
    · exact (mem_del.1 h).2 rfl
  · simp only [mem_del]
    exact ⟨fun h => h.imp_right fun h => h.imp (fun h => h.1) fun h => ⟨h.1, h.2.1⟩, fun h => h.imp_right fun h => h.imp (fun h => ⟨h, hx⟩) fun h => ⟨h.1, h.2, hx⟩⟩
theorem gr_right {r s : Rt} {u : Tm} {wr : Bool} {e : Int} (h : gr r u wr = (s, e)) : (RR r ∧ nm u = true ∧ RR s ∧ e = 0) ∨ (s = zero ∧ e ≠ 0) := by
  by_cases hr : RR r
  · by_cases hu : nm u = true
    · rcases gr_cases r u wr hr hu with ⟨e2, _⟩ | ⟨e2, _⟩ | ⟨_, _, e2, h3⟩
      · rw [h] at e2; obtain ⟨rfl, rfl⟩ := Prod.mk.inj e2; exact .inr ⟨rfl, by decide⟩
      · rw [h] at e2; obtain ⟨rfl, rfl⟩ := Prod.mk.inj e2; exact .inr ⟨rfl, by decide⟩
      · rw [h] at h3
        refine .inl ⟨hr, hu, h3, ?_⟩
        rcases e2 with ⟨_, e2⟩ | ⟨_, e2⟩ <;> (rw [h] at e2; exact (Prod.mk.inj e2).2)
    · unfold gr at h
      rw [if_neg (by simpa using hr), if_pos hu] at h
      obtain ⟨rfl, rfl⟩ := Prod.mk.inj h; exact .inr ⟨rfl, by decide⟩
  · unfold gr at h
    rw [if_pos hr] at h
    obtain ⟨rfl, rfl⟩ := Prod.mk.inj h; exact .inr ⟨rfl, by decide⟩
theorem rv_right {r s : Rt} {u : Tm} {e : Int} (h : rv r u = (s, e)) : (RR r ∧ nm u = true ∧ RR s ∧ e = 0) ∨ (s = zero ∧ e ≠ 0) := by
  by_cases hr : RR r
  · by_cases hu : nm u = true
    · rcases rv_cases r u hr hu with ⟨e2, _⟩ | ⟨e2, _⟩ | ⟨_, _, e2, h3⟩
      · rw [h] at e2; obtain ⟨rfl, rfl⟩ := Prod.mk.inj e2; exact .inr ⟨rfl, by decide⟩
      · rw [h] at e2; obtain ⟨rfl, rfl⟩ := Prod.mk.inj e2; exact .inr ⟨rfl, by decide⟩
      · rw [h] at h3
        refine .inl ⟨hr, hu, h3, ?_⟩
        rw [h] at e2; exact (Prod.mk.inj e2).2
    · unfold rv at h
      rw [if_neg (by simpa using hr), if_pos hu] at h
      obtain ⟨rfl, rfl⟩ := Prod.mk.inj h; exact .inr ⟨rfl, by decide⟩
  · unfold rv at h
    rw [if_pos hr] at h
    obtain ⟨rfl, rfl⟩ := Prod.mk.inj h; exact .inr ⟨rfl, by decide⟩
end Go.Proofs.YtbdealddjonobaaGreat.Rig

namespace Go.Proofs.YtbdealddjonobaaGreat.Rig
open Go.RowKit Wire

def Off (gs : List Nat) (b : Nat) : Prop := b ∉ gs
theorem isR_open {w : World} {v : Value} {r : Rt} (h : IsR w v r) : ∃ (o f : ByteArray) (ep : Int) (A : Option Addr) (c : Nat) (rs : List ByteArray) (B : Option Addr) (d : Nat) (ws : List ByteArray),
    v = RV o f ep A rs.length c B ws.length d ∧ r = ⟨o.data.toList, f.data.toList, ep, bl rs, bl ws⟩ ∧ SReads w A rs ∧ SReads w B ws := by
  obtain ⟨o, f, A, c, rs, B, d, ws, h1, h2, h3, h4, _, _⟩ := h
  exact ⟨o, f, r.ep, A, c, rs, B, d, ws, h1, h2, h3, h4⟩
theorem rcan_is (v : Value) (r : Rt) (u : ByteArray) (wr : Bool) (w : World) (h : IsR w v r) (hf : Few r) : Calls Tryz.prog 42 #[v, .string u, .bool wr] w fun e w' => e = .returned (.bool (can r u.data.toList wr)) ∧ Below w.heap.size w w' := by
  obtain ⟨o, f, ep, A, c, rs, B, d, ws, rfl, rfl, h3, h4⟩ := isR_open h
  exact rcan_any o f ep A c rs B d ws u wr w h3 h4 hf
theorem rsame_is (v v' : Value) (r : Rt) (w : World) (h : IsR w v r) (h' : IsR w v' r) (hf : Few r) : Calls Tryz.prog 36 #[v, v'] w fun e w' => e = .returned (.bool true) ∧ Below w.heap.size w w' := by
  obtain ⟨o, f, ep, A, c, rs, B, d, ws, rfl, rfl, h3, h4⟩ := isR_open h
  obtain ⟨o', f', ep', A', c', rs', B', d', ws', rfl, e, h3', h4'⟩ := isR_open h'
  simp only [Rt.mk.injEq] at e
  obtain ⟨e1, e2, rfl, e4, e5⟩ := e
  obtain rfl := str_eq e1
  obtain rfl := str_eq e2
  obtain rfl := bl_inj e4
  obtain rfl := bl_inj e5
  have h1 := hf.2.2.1
  have h2 := hf.2.2.2.1
  simp only [bl_len] at h1 h2
  exact rsame_any o f ep A c rs B d ws A' c' B' d' w h3 h4 h3' h4' (by omega) (by omega)
theorem isX_len {ok : Nat → Prop} {w : World} {o f : ByteArray} {ep : Int} {A : Option Addr} {n c : Nat} {B : Option Addr} {m d : Nat} {r : Rt} (h : IsX ok w (.agg #[.string o, .string f, .int .i64 ep, .slice A n c, .slice B m d]) r) : n = r.rs.length ∧ m = r.ws.length ∧ ep = r.ep ∧ o.data.toList = r.o ∧ f.data.toList = r.f := by
  obtain ⟨o2, f2, A2, c2, rs, B2, d2, ws, h1, h2, _⟩ := h
  unfold RV at h1
  simp only [Value.agg.injEq, Array.mk.injEq, List.cons.injEq, Value.string.injEq, Value.int.injEq, Value.slice.injEq, true_and, and_true] at h1
  obtain ⟨rfl, rfl, e, ⟨_, rfl, _⟩, _, rfl, _⟩ := h1
  have h3 := congrArg Rt.rs h2
  have h4 := congrArg Rt.ws h2
  have h5 := congrArg Rt.o h2
  have h6 := congrArg Rt.f h2
  simp only at h3 h4 h5 h6
  exact ⟨by rw [h3, bl_len], by rw [h4, bl_len], e, h5.symm, h6.symm⟩
theorem isX_lit {ok : Nat → Prop} {w : World} {v : Value} {r : Rt} (h : IsX ok w v r) : ∃ (o f : ByteArray) (ep : Int) (A : Option Addr) (n c : Nat) (B : Option Addr) (m d : Nat), v = .agg #[.string o, .string f, .int .i64 ep, .slice A n c, .slice B m d] ∧
    ep = r.ep ∧ n = r.rs.length ∧ m = r.ws.length ∧ o.data.toList = r.o ∧ f.data.toList = r.f ∧ IsX ok w (.agg #[.string o, .string f, .int .i64 ep, .slice A n c, .slice B m d]) r := by
  obtain ⟨o, f, A, c, rs, B, d, ws, rfl, h2⟩ := id h
  obtain ⟨h3, h4, _, h5, h6⟩ := isX_len (show IsX ok w (.agg #[.string o, .string f, .int .i64 r.ep, .slice A rs.length c, .slice B ws.length d]) r from h)
  exact ⟨o, f, _, A, _, c, B, _, d, rfl, rfl, h3, h4, h5, h6, h⟩
def HoldL (gs : List Nat) (g : Nat) (w : World) (o f : ByteArray) (ep : Int) (A : Option Addr) (n c : Nat) (B : Option Addr) (m d : Nat) (r : Rt) : Prop :=
  Bx g w o f ep A n c B m d ∧ Sf g w ∧ IsX (Off gs) w (.agg #[.string o, .string f, .int .i64 ep, .slice A n c, .slice B m d]) r
section
variable {gs : List Nat} {g : Nat} {w w' : World} {o f : ByteArray} {ep : Int} {A : Option Addr} {n c : Nat} {B : Option Addr} {m d : Nat} {r : Rt}
theorem HoldL.sub {gs' : List Nat} (h : HoldL gs g w o f ep A n c B m d r) (hs : ∀ b ∈ gs', b ∈ gs) : HoldL gs' g w o f ep A n c B m d r := ⟨h.1, h.2.1, h.2.2.mono fun b _ hb hm => hb (hs b hm)⟩
end
end Go.Proofs.YtbdealddjonobaaGreat.Rig

