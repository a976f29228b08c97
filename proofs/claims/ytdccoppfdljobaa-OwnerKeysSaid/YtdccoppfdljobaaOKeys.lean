/-
  KEYS (layer 15): what MetaKey and DataKey make; Take of no bytes; the law OwnerKeys. By an AI agent; no person has read it.
-/
import Derived.Test.YtdccoppfdljobaaW1
import Derived.Test.YtdccoppfdljobaaO1
import Derived.Laws.Closers25
import Derived.StillTailTactics
namespace Go.Proofs.Ytdccoppfdljobaa.Own
open Go Go.RowKit Wire Frm

set_option linter.unusedVariables false
set_option linter.unusedSimpArgs false
def keyT (k : UInt8) (o f : List UInt8) : List UInt8 := k :: 47 :: (o ++ 47 :: f)
def key (k : UInt8) (o f : ByteArray) : ByteArray := ⟨(keyT k o.data.toList f.data.toList).toArray⟩
theorem bytes_eq {a b : ByteArray} (h : a.data.toList = b.data.toList) : a = b := by
  cases a with
  | mk d => cases b with
    | mk e =>
      have : d = e := Array.toList_inj.1 h
      rw [this]
theorem key_app (k : UInt8) (o f : ByteArray) : ((((⟨#[k]⟩ : ByteArray) ++ ⟨#[47]⟩) ++ o) ++ ⟨#[47]⟩) ++ f = key k o f := by
  refine bytes_eq ?_
  rw [app_data, app_data, app_data, app_data]
  simp [key, keyT]
theorem app_cut {a b x y : List UInt8} (ha : (47 : UInt8) ∉ a) (hb : (47 : UInt8) ∉ b) (h : a ++ 47 :: x = b ++ 47 :: y) : a = b ∧ x = y := by
  induction a generalizing b with
  | nil =>
    cases b with
    | nil => exact ⟨rfl, (List.cons.inj h).2⟩
    | cons c b => exact absurd (by rw [← (List.cons.inj h).1]; exact List.mem_cons_self ..) hb
  | cons c a ih =>
    cases b with
    | nil => exact absurd (by rw [(List.cons.inj h).1]; exact List.mem_cons_self ..) ha
    | cons d b =>
      obtain ⟨h1, h2⟩ := List.cons.inj h
      obtain ⟨h3, h4⟩ := ih (fun hm => ha (List.mem_cons_of_mem _ hm)) (fun hm => hb (List.mem_cons_of_mem _ hm)) h2
      exact ⟨by rw [h1, h3], h4⟩
theorem key_inj {k j : UInt8} {o f p g : ByteArray} (ho : (47 : UInt8) ∉ o.data.toList) (hp : (47 : UInt8) ∉ p.data.toList) (h : key k o f = key j p g) : k = j ∧ o = p ∧ f = g := by
  have h1 : keyT k o.data.toList f.data.toList = keyT j p.data.toList g.data.toList := by
    have := congrArg (fun z : ByteArray => z.data.toList) h
    simpa [key] using this
  obtain ⟨h2, h3⟩ := List.cons.inj h1
  obtain ⟨h4, h5⟩ := app_cut ho hp (List.cons.inj h3).2
  exact ⟨h2, bytes_eq h4, bytes_eq h5⟩
theorem key_size (k : UInt8) (o f : ByteArray) : (key k o f).size = o.size + f.size + 3 := by
  rw [Lib.size_eq, Lib.size_eq o, Lib.size_eq f]
  simp [key, keyT]
  omega
set_option maxHeartbeats 4000000 in
set_option maxRecDepth 1000000 in
theorem metakey_any (O F : ByteArray) (w : World) (h : O.size + F.size ≤ 140737488355000) : Calls Try.prog 6 #[.string O, .string F] w fun e w' => e = .returned (.string (key 102 O F)) ∧ Below w.heap.size w w' := by
  have hmf : ∀ (fn : Fn) (first cap : Array Value) (w : World), (Instr.makeFunc fn first cap).run Try.prog w = .ok (.func fn first cap) w := fun _ _ _ _ => rfl
  go_enter Try.func6, Try.ntmps6
  go_wp2
  go_ret
  exact ⟨congrArg (fun z => Ending.returned (.string z)) (key_app 102 O F), (Below.refl _ w).alloc (Nat.le_refl _) _⟩
set_option maxHeartbeats 4000000 in
set_option maxRecDepth 1000000 in
theorem datakey_any (O F : ByteArray) (w : World) (h : O.size + F.size ≤ 140737488355000) : Calls Try.prog 7 #[.string O, .string F] w fun e w' => e = .returned (.string (key 100 O F)) ∧ Below w.heap.size w w' := by
  have hmf : ∀ (fn : Fn) (first cap : Array Value) (w : World), (Instr.makeFunc fn first cap).run Try.prog w = .ok (.func fn first cap) w := fun _ _ _ _ => rfl
  go_enter Try.func7, Try.ntmps7
  go_wp2
  go_ret
  exact ⟨congrArg (fun z => Ending.returned (.string z)) (key_app 100 O F), (Below.refl _ w).alloc (Nat.le_refl _) _⟩
def ZE : Value := .agg #[.string ⟨#[]⟩, .string ⟨#[]⟩, .int .i64 0, .slice none 0 0, .slice none 0 0, .int .u64 0, .slice none 0 0, .slice none 0 0, .string ⟨#[]⟩, .string ⟨#[]⟩, .int .u64 0, .int .i64 0, .string ⟨#[]⟩, .string ⟨#[]⟩, .int .i64 0, .slice none 0 0]
theorem all_empty (a b : Int) : all [] a b = ([], 2) := all_none rfl
abbrev ZEc : Array Value := #[.string ⟨#[]⟩, .string ⟨#[]⟩, .int .i64 0, .slice none 0 0, .slice none 0 0, .int .u64 0, .slice none 0 0, .slice none 0 0, .string ⟨#[]⟩, .string ⟨#[]⟩, .int .u64 0, .int .i64 0, .string ⟨#[]⟩, .string ⟨#[]⟩, .int .i64 0, .slice none 0 0]
set_option maxHeartbeats 4000000 in
set_option maxRecDepth 1000000 in
theorem upto_nil (w : World) : Calls Try.prog 14 #[.string ⟨#[]⟩, .int .i64 4] w fun e w' => Ta ([], 2) e w' ∧ Below w.heap.size w w' := by
  have HT : Hid (∀ w, Calls Try.prog 21 #[.string ⟨#[]⟩, .int .i64 4, .int .i64 0] w fun e w' => Ta ([], 2) e w' ∧ Below w.heap.size w w') := Lib.hid fun w => by
    have h := takeAll_any ⟨#[]⟩ 4 0 w (by decide) (by decide) (by decide)
    rw [show all (⟨#[]⟩ : ByteArray).data.toList 4 0 = ([], 2) from all_empty 4 0] at h
    exact h
  go_enter Try.func14, Try.ntmps14
  go_wp2_with fail
  refine (HT.out _).mono ?_
  rintro e w1 ⟨⟨A, c, ys, hys, hc, hr, rfl⟩, hb⟩
  have HX : Hid (Ta ([], 2) (.returned (.tuple #[.slice A ys.length c, .int .i64 2])) w1) := Lib.hid ⟨A, c, ys, hys, hc, hr, rfl⟩
  have HB := Lib.hid hb
  clear hys hc hr hb
  dsimp only
  go_wp2
  go_ret2
  exact ⟨HX.out, HB.out⟩
theorem bxn16 {w : World} {g : Nat} {v0 v1 v2 v3 v4 v5 v6 v7 v8 v9 v10 v11 v12 v13 v14 v15 : Value} {t : TypeId} (h : (box g #[v0, v1, v2, v3, v4, v5, v6, v7, v8, v9, v10, v11, v12, v13, v14, v15] t).P w) : w.cell? ⟨g, 0, none⟩ = some v0 ∧ w.cell? ⟨g, 1, none⟩ = some v1 ∧ w.cell? ⟨g, 2, none⟩ = some v2 ∧ w.cell? ⟨g, 3, none⟩ = some v3 ∧ w.cell? ⟨g, 4, none⟩ = some v4 ∧ w.cell? ⟨g, 5, none⟩ = some v5 ∧ w.cell? ⟨g, 6, none⟩ = some v6 ∧ w.cell? ⟨g, 7, none⟩ = some v7 ∧ w.cell? ⟨g, 8, none⟩ = some v8 ∧ w.cell? ⟨g, 9, none⟩ = some v9 ∧ w.cell? ⟨g, 10, none⟩ = some v10 ∧ w.cell? ⟨g, 11, none⟩ = some v11 ∧ w.cell? ⟨g, 12, none⟩ = some v12 ∧ w.cell? ⟨g, 13, none⟩ = some v13 ∧ w.cell? ⟨g, 14, none⟩ = some v14 ∧ w.cell? ⟨g, 15, none⟩ = some v15 ∧ g < w.heap.size :=
  ⟨box_at h 0, box_at h 1, box_at h 2, box_at h 3, box_at h 4, box_at h 5, box_at h 6, box_at h 7, box_at h 8, box_at h 9, box_at h 10, box_at h 11, box_at h 12, box_at h 13, box_at h 14, box_at h 15, box_lt h⟩
/-- Which of n things a raw number speaks of. -/
def pk (c : Int) (n : Nat) : Nat := (if c < 0 then (-(c + 1)).toNat else c.toNat) % n
theorem pk_lt (c : Int) {n : Nat} (hn : 0 < n) : pk c n < n := Nat.mod_lt _ hn
theorem pk_small {k n : Nat} (h : k < n) : pk (k : Int) n = k := by
  unfold pk
  rw [if_neg (by omega), show ((k : Int)).toNat = k by omega, Nat.mod_eq_of_lt h]
set_option maxHeartbeats 1000000 in
theorem pick7_any (c : Int) (n : Nat) (w : World) (hc : -9223372036854775808 ≤ c ∧ c ≤ 9223372036854775807) (hn : 0 < n) (hn2 : n ≤ 9223372036854775807) :
    Calls Try.prog 5 #[.int .i64 c, .int .i64 (n : Int)] w fun e w' => e = .returned (.int .i64 (pk c n : Int)) ∧ w' = w := by
  obtain ⟨hc1, hc2⟩ := hc
  have hn0 : (0 : Int) < (n : Int) := by omega
  by_cases hneg : c < 0
  · obtain ⟨q, hq⟩ : ∃ q : Nat, c + 1 = -(q : Int) := ⟨(-(c + 1)).toNat, by omega⟩
    obtain ⟨K, hK⟩ : ∃ K : Nat, q % n = K := ⟨_, rfl⟩
    have hrem : (c + 1).tmod (n : Int) = -(K : Int) := by rw [hq, Int.neg_tmod, ← Int.ofNat_tmod, hK]
    have hpk : Hid (pk c n = K) := by
      show pk c n = K
      unfold pk
      rw [if_pos hneg, show (-(c + 1)).toNat = q by omega, hK]
    clear hq hK
    go_enter Try.func5, Try.ntmps5
    go_wp2
    go_ret
    exact ⟨by rw [hpk.out]; simp, rfl⟩
  · obtain ⟨q, hq⟩ : ∃ q : Nat, c = (q : Int) := ⟨c.toNat, by omega⟩
    obtain ⟨K, hK⟩ : ∃ K : Nat, q % n = K := ⟨_, rfl⟩
    have hrem : c.tmod (n : Int) = (K : Int) := by rw [hq, ← Int.ofNat_tmod, hK]
    have hrem2 : c % (n : Int) = (K : Int) := by rw [hq, ← Int.natCast_emod, hK]
    have hc0 : 0 ≤ c := by omega
    have hpk : Hid (pk c n = K) := by
      show pk c n = K
      unfold pk
      rw [if_neg hneg, show c.toNat = q by omega, hK]
    clear hq hK
    go_enter Try.func5, Try.ntmps5
    go_wp2
    go_ret
    exact ⟨by rw [hpk.out]; rfl, rfl⟩
/-- The eight names. -/
def nmK : List ByteArray := [⟨#[97, 110, 110, 97]⟩, ⟨#[98, 101, 110]⟩, ⟨#[97]⟩, ⟨#[98]⟩, ⟨#[110, 111, 116, 101, 115]⟩, ⟨#[97, 110]⟩, ⟨#[110, 97]⟩, ⟨#[110]⟩]
theorem nm_ok {m : Nat} (h : m < 8) : (47 : UInt8) ∉ (nmK.getD m ByteArray.empty).data.toList ∧ (nmK.getD m ByteArray.empty).size ≤ 5 := by
  have : ∀ a : Fin 8, (47 : UInt8) ∉ (nmK.getD a.1 ByteArray.empty).data.toList ∧ (nmK.getD a.1 ByteArray.empty).size ≤ 5 := by decide +kernel
  exact this ⟨m, h⟩
theorem beq_key {a b : ByteArray} {c : Bool} (h : (a = b) ↔ (c = true)) : (a.toList == b.toList) = c := by
  rw [Lib.toList_data, Lib.toList_data]
  cases c with
  | true => exact beq_iff_eq.2 (by rw [h.2 rfl])
  | false => exact beq_eq_false_iff_ne.2 fun e => by have := h.1 (bytes_eq e); cases this
theorem key_same {k : UInt8} {x f y g : ByteArray} (hx : (47 : UInt8) ∉ x.data.toList) (hy : (47 : UInt8) ∉ y.data.toList) : (key k x f = key k y g) ↔ ((decide (x = y) && decide (f = g)) = true) := by
  rw [Bool.and_eq_true, decide_eq_true_eq, decide_eq_true_eq]
  constructor
  · intro h
    exact (key_inj hx hy h).2
  · rintro ⟨rfl, rfl⟩; rfl
theorem key_other {x f y g : ByteArray} (hx : (47 : UInt8) ∉ x.data.toList) (hy : (47 : UInt8) ∉ y.data.toList) : (key 102 x f = key 100 y g) ↔ (false = true) := by
  constructor
  · intro h
    exact absurd (key_inj hx hy h).1 (by decide)
  · intro h; cases h
set_option maxHeartbeats 4000000 in
set_option maxRecDepth 1000000 in
theorem readnil_any (w : World) : Calls Try.prog 11 #[.string ⟨#[]⟩] w fun e w' => e = .returned (.tuple #[ZE, .bool false]) ∧ Below w.heap.size w w' := by
  have HF := Lib.hid (fm_refl w)
  go_enter Try.func11, Try.ntmps11
  go_wp2_with fail
  have hF := HF.out.box #[.string ⟨#[]⟩, .string ⟨#[]⟩, .int .i64 0, .slice none 0 0, .slice none 0 0, .int .u64 0, .slice none 0 0, .slice none 0 0, .string ⟨#[]⟩, .string ⟨#[]⟩, .int .u64 0, .int .i64 0, .string ⟨#[]⟩, .string ⟨#[]⟩, .int .i64 0, .slice none 0 0] 36
  obtain ⟨gx, hg⟩ : ∃ g, w.heap.size = g := ⟨_, rfl⟩
  rw [hg] at hF ⊢
  clear hg
  generalize w.alloc (.cells #[.string ⟨#[]⟩, .string ⟨#[]⟩, .int .i64 0, .slice none 0 0, .slice none 0 0, .int .u64 0, .slice none 0 0, .slice none 0 0, .string ⟨#[]⟩, .string ⟨#[]⟩, .int .u64 0, .int .i64 0, .string ⟨#[]⟩, .string ⟨#[]⟩, .int .i64 0, .slice none 0 0] 36) = w1 at hF ⊢
  replace HF := Lib.hid hF
  clear hF
  go_wp2_with fail
  with_reducible refine (upto_nil _).mono ?_
  rintro e w1 ⟨⟨A, c, ys, hys, hc, hr, rfl⟩, hb⟩
  replace HF := Lib.hid (HF.out.go hb)
  clear hb
  obtain rfl : ys = [] := List.map_eq_nil_iff.1 hys
  clear hys hc hr
  try dsimp only
  obtain ⟨c0, c1, c2, c3, c4, c5, c6, c7, c8, c9, c10, c11, c12, c13, c14, c15, c16⟩ := bxn16 (HF.out.at 0 rfl)
  have fz := box_sf (HF.out.at 0 rfl)
  go_wp2_with fail
  clear fz c0 c1 c2 c3 c4 c5 c6 c7 c8 c9 c10 c11 c12 c13 c14 c15 c16
  have hF := HF.out.fill 0 rfl [.string ⟨#[]⟩, .string ⟨#[]⟩, .int .i64 0, .slice none 0 0, .slice none 0 0, .int .u64 0, .slice none 0 0, .slice none 0 0, .string ⟨#[]⟩, .string ⟨#[]⟩, .int .u64 0, .int .i64 0, .string ⟨#[]⟩, .string ⟨#[]⟩, .int .i64 0, .slice none 0 0] rfl
  simp only [fills, Nat.reduceAdd, Nat.zero_add, List.set_cons_zero, List.set_cons_succ] at hF
  generalize ((((((((((((((((w1.setCell ⟨gx, 0, none⟩ (.string ⟨#[]⟩)).setCell ⟨gx, 1, none⟩ (.string ⟨#[]⟩)).setCell ⟨gx, 2, none⟩ (.int .i64 0)).setCell ⟨gx, 3, none⟩ (.slice none 0 0)).setCell ⟨gx, 4, none⟩ (.slice none 0 0)).setCell ⟨gx, 5, none⟩ (.int .u64 0)).setCell ⟨gx, 6, none⟩ (.slice none 0 0)).setCell ⟨gx, 7, none⟩ (.slice none 0 0)).setCell ⟨gx, 8, none⟩ (.string ⟨#[]⟩)).setCell ⟨gx, 9, none⟩ (.string ⟨#[]⟩)).setCell ⟨gx, 10, none⟩ (.int .u64 0)).setCell ⟨gx, 11, none⟩ (.int .i64 0)).setCell ⟨gx, 12, none⟩ (.string ⟨#[]⟩)).setCell ⟨gx, 13, none⟩ (.string ⟨#[]⟩)).setCell ⟨gx, 14, none⟩ (.int .i64 0)).setCell ⟨gx, 15, none⟩ (.slice none 0 0)) = w2 at hF ⊢
  replace HF := Lib.hid hF
  clear hF
  generalize w2 = w1 at HF ⊢
  obtain ⟨d0, d1, d2, d3, d4, d5, d6, d7, d8, d9, d10, d11, d12, d13, d14, d15, d16⟩ := bxn16 (HF.out.at 0 rfl)
  refine bodyPost_ret (v := .tuple #[.agg #[.string ⟨#[]⟩, .string ⟨#[]⟩, .int .i64 0, .slice none 0 0, .slice none 0 0, .int .u64 0, .slice none 0 0, .slice none 0 0, .string ⟨#[]⟩, .string ⟨#[]⟩, .int .u64 0, .int .i64 0, .string ⟨#[]⟩, .string ⟨#[]⟩, .int .i64 0, .slice none 0 0], .bool false]) (by simp [results, Try.results11, go_sem, d0, d1, d2, d3, d4, d5, d6, d7, d8, d9, d10, d11, d12, d13, d14, d15]) rfl ?_
  exact ⟨rfl, HF.out.bel⟩
set_option maxHeartbeats 4000000 in
set_option maxRecDepth 1000000 in
theorem takenil_any (w : World) : Calls Try.prog 8 #[.string ⟨#[]⟩] w fun e w' => e = .returned (.tuple #[ZE, .int .i64 2]) ∧ Below w.heap.size w w' := by
  have HF := Lib.hid (fm_refl w)
  go_enter Try.func8, Try.ntmps8
  go_wp2_with fail
  have hF := HF.out.box #[.string ⟨#[]⟩, .string ⟨#[]⟩, .int .i64 0, .slice none 0 0, .slice none 0 0, .int .u64 0, .slice none 0 0, .slice none 0 0, .string ⟨#[]⟩, .string ⟨#[]⟩, .int .u64 0, .int .i64 0, .string ⟨#[]⟩, .string ⟨#[]⟩, .int .i64 0, .slice none 0 0] 36
  obtain ⟨gx, hg⟩ : ∃ g, w.heap.size = g := ⟨_, rfl⟩
  rw [hg] at hF ⊢
  clear hg
  generalize w.alloc (.cells #[.string ⟨#[]⟩, .string ⟨#[]⟩, .int .i64 0, .slice none 0 0, .slice none 0 0, .int .u64 0, .slice none 0 0, .slice none 0 0, .string ⟨#[]⟩, .string ⟨#[]⟩, .int .u64 0, .int .i64 0, .string ⟨#[]⟩, .string ⟨#[]⟩, .int .i64 0, .slice none 0 0] 36) = w1 at hF ⊢
  replace HF := Lib.hid hF
  clear hF
  go_wp2_with fail
  with_reducible refine (readnil_any _).mono ?_
  rintro e w1 ⟨rfl, hb⟩
  replace HF := Lib.hid (HF.out.go hb)
  clear hb
  try dsimp only
  unfold ZE
  try dsimp only
  obtain ⟨c0, c1, c2, c3, c4, c5, c6, c7, c8, c9, c10, c11, c12, c13, c14, c15, c16⟩ := bxn16 (HF.out.at 0 rfl)
  have fz := box_sf (HF.out.at 0 rfl)
  go_wp2_with fail
  clear fz c0 c1 c2 c3 c4 c5 c6 c7 c8 c9 c10 c11 c12 c13 c14 c15 c16
  have hF := (HF.out.fill 0 rfl [.string ⟨#[]⟩, .string ⟨#[]⟩, .int .i64 0, .slice none 0 0, .slice none 0 0, .int .u64 0, .slice none 0 0, .slice none 0 0, .string ⟨#[]⟩, .string ⟨#[]⟩, .int .u64 0, .int .i64 0, .string ⟨#[]⟩, .string ⟨#[]⟩, .int .i64 0, .slice none 0 0] rfl).box #[.string ⟨#[]⟩, .string ⟨#[]⟩, .int .i64 0, .slice none 0 0, .slice none 0 0, .int .u64 0, .slice none 0 0, .slice none 0 0, .string ⟨#[]⟩, .string ⟨#[]⟩, .int .u64 0, .int .i64 0, .string ⟨#[]⟩, .string ⟨#[]⟩, .int .i64 0, .slice none 0 0] 36
  simp only [fills, Nat.reduceAdd, Nat.zero_add, List.set_cons_zero, List.set_cons_succ] at hF
  generalize (((((((((((((((((w1.setCell ⟨gx, 0, none⟩ (.string ⟨#[]⟩)).setCell ⟨gx, 1, none⟩ (.string ⟨#[]⟩)).setCell ⟨gx, 2, none⟩ (.int .i64 0)).setCell ⟨gx, 3, none⟩ (.slice none 0 0)).setCell ⟨gx, 4, none⟩ (.slice none 0 0)).setCell ⟨gx, 5, none⟩ (.int .u64 0)).setCell ⟨gx, 6, none⟩ (.slice none 0 0)).setCell ⟨gx, 7, none⟩ (.slice none 0 0)).setCell ⟨gx, 8, none⟩ (.string ⟨#[]⟩)).setCell ⟨gx, 9, none⟩ (.string ⟨#[]⟩)).setCell ⟨gx, 10, none⟩ (.int .u64 0)).setCell ⟨gx, 11, none⟩ (.int .i64 0)).setCell ⟨gx, 12, none⟩ (.string ⟨#[]⟩)).setCell ⟨gx, 13, none⟩ (.string ⟨#[]⟩)).setCell ⟨gx, 14, none⟩ (.int .i64 0)).setCell ⟨gx, 15, none⟩ (.slice none 0 0)).alloc (.cells #[.string ⟨#[]⟩, .string ⟨#[]⟩, .int .i64 0, .slice none 0 0, .slice none 0 0, .int .u64 0, .slice none 0 0, .slice none 0 0, .string ⟨#[]⟩, .string ⟨#[]⟩, .int .u64 0, .int .i64 0, .string ⟨#[]⟩, .string ⟨#[]⟩, .int .i64 0, .slice none 0 0] 36)) = w2 at hF ⊢
  replace HF := Lib.hid hF
  clear hF
  generalize w2 = w1 at HF ⊢
  obtain ⟨d0, d1, d2, d3, d4, d5, d6, d7, d8, d9, d10, d11, d12, d13, d14, d15, d16⟩ := bxn16 (HF.out.at 1 rfl)
  refine bodyPost_ret (v := .tuple #[.agg #[.string ⟨#[]⟩, .string ⟨#[]⟩, .int .i64 0, .slice none 0 0, .slice none 0 0, .int .u64 0, .slice none 0 0, .slice none 0 0, .string ⟨#[]⟩, .string ⟨#[]⟩, .int .u64 0, .int .i64 0, .string ⟨#[]⟩, .string ⟨#[]⟩, .int .i64 0, .slice none 0 0], .int .i64 2]) (by simp [results, Try.results8, go_sem, d0, d1, d2, d3, d4, d5, d6, d7, d8, d9, d10, d11, d12, d13, d14, d15]) rfl ?_
  exact ⟨rfl, HF.out.bel⟩
end Go.Proofs.Ytdccoppfdljobaa.Own
