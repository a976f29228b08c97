/-
  MKnown. By an AI agent.
-/
import Derived.Test.YtlkgjceddbclpaaGreatEZ
import Derived.Test.YtlkgjceddbclpaaGreatEMHelp
import Derived.Test.YtlkgjceddbclpaaGreatEMLawQ
namespace Go.Proofs.YtlkgjceddbclpaaGreat.Mta
open Go.RowKit Wire Term Rig Draw

set_option linter.unusedSimpArgs false
def pcs (ks : List (ByteArray × ByteArray)) : List Value := ks.flatMap fun k => [.string k.1, .string k.2]
theorem pcs_len (ks : List (ByteArray × ByteArray)) : (pcs ks).length = ks.length * 2 := by
  induction ks with
  | nil => rfl
  | cons k ks ih => show (Value.string k.1 :: Value.string k.2 :: pcs ks).length = _; rw [List.length_cons, List.length_cons, ih, List.length_cons]; omega
theorem pcs_app (a b : List (ByteArray × ByteArray)) : pcs (a ++ b) = pcs a ++ pcs b := by simp [pcs]
theorem pcs_one (ks : List (ByteArray × ByteArray)) : ∀ u ∈ pcs ks, u.oneCell' = true := fun u hu => by
  obtain ⟨k, _, hk⟩ := List.mem_flatMap.1 hu
  have : u = .string k.1 ∨ u = .string k.2 := by simpa using hk
  rcases this with rfl | rfl <;> rfl
theorem pcs_get : ∀ (ks : List (ByteArray × ByteArray)) (j : Nat), j < ks.length → (pcs ks)[j * 2]? = some (.string (ks.getD j default).1) ∧ (pcs ks)[j * 2 + 1]? = some (.string (ks.getD j default).2)
  | [], j, h => absurd h (Nat.not_lt_zero _)
  | k :: ks, 0, _ => ⟨rfl, rfl⟩
  | k :: ks, j + 1, h => by
    have := pcs_get ks j (by simpa using h)
    show (Value.string k.1 :: Value.string k.2 :: pcs ks)[(j + 1) * 2]? = _ ∧ (Value.string k.1 :: Value.string k.2 :: pcs ks)[(j + 1) * 2 + 1]? = _
    rw [show (j + 1) * 2 = j * 2 + 1 + 1 by omega, show j * 2 + 1 + 1 + 1 = (j * 2 + 1) + 1 + 1 by omega, List.getElem?_cons_succ, List.getElem?_cons_succ, List.getElem?_cons_succ, List.getElem?_cons_succ]
    simpa using this
theorem preads_own {w : World} {base : Nat} {e : TypeId} {a : Option Addr} {n c : Nat} {ks : List (ByteArray × ByteArray)} (h : w.ownsRow base e 2 (.slice a n c) n (pcs ks)) : PReads w a ks ∧ n = ks.length ∧ (n ≤ c ∧ (a = none → c = 0)) ∧ (∀ b off, a = some ⟨b, off, none⟩ → base ≤ b) := by
  have hl : n = ks.length := by
    have := h.1
    rw [pcs_len] at this
    omega
  rcases h.2 with ⟨hv, h0⟩ | ⟨g, cap, cur, hv, hg, hgg, hnc, hcm, hcs, htake⟩
  · injection hv with e1 e2 e3
    subst e1; subst e2; subst e3
    have : ks = [] := List.eq_nil_of_length_eq_zero hl.symm
    subst this
    exact ⟨PReads.nil _ _, rfl, ⟨Nat.le_refl _, fun _ => rfl⟩, fun _ _ h => by cases h⟩
  · injection hv with e1 e2 e3
    subst e1; subst e3
    refine ⟨fun j hj => ?_, hl, ⟨hnc, fun h => by cases h⟩, fun b off h => by injection h with h; injection h with h1 _ _; omega⟩
    obtain ⟨p1, p2⟩ := pcs_get ks j hj
    have hcell : ∀ i u, (pcs ks)[i]? = some u → w.cell? ⟨g, 0 + i, none⟩ = some u := fun i u hu => by
      rw [Nat.zero_add, cell_of_row w g i cur e (0, 0) hgg]
      rw [← htake, List.getElem?_take] at hu
      split at hu
      · simpa using hu
      · cases hu
    exact ⟨g, 0, rfl, (Array.getElem?_eq_some_iff.1 hgg).1, hcell _ _ p1, by have := hcell _ _ p2; rw [← Nat.add_assoc] at this; exact this⟩
def Plst (B : Nat) (x : List (Tm × Tm)) (e : Ending) (w' : World) : Prop := ∃ (A : Option Addr) (c : Nat) (ks : List (ByteArray × ByteArray)), pl ks = x ∧ (ks.length ≤ c ∧ (A = none → c = 0)) ∧ PReads w' A ks ∧ (∀ b off, A = some ⟨b, off, none⟩ → B ≤ b) ∧ e = .returned (.slice A ks.length c)
def OwnsP (t : TypeId) (w0 : World) (x : List (Tm × Tm)) (v : Value) (wr : World) : Prop := ∃ ks : List (ByteArray × ByteArray), pl ks = x ∧ wr.ownsRow w0.heap.size t 2 v ks.length (pcs ks) ∧ Below w0.heap.size w0 wr
theorem ownsP_nil (t : TypeId) (w : World) {wr : World} (h : Below w.heap.size w wr) : OwnsP t w [] (.slice none 0 0) wr := ⟨[], rfl, World.ownsRow_nil _ _ _ _, h⟩
theorem ownsP_lst {t : TypeId} {w0 wr : World} {x : List (Tm × Tm)} {v : Value} (h : OwnsP t w0 x v wr) : Plst w0.heap.size x (.returned v) wr := by
  obtain ⟨ks, h1, h2, _⟩ := h
  obtain ⟨A, c, rfl⟩ := own_value h2
  obtain ⟨h3, h4, h5, h6⟩ := preads_own h2
  exact ⟨A, c, ks, h1, h5, h3, h6, rfl⟩
theorem known_info : (Tryz.prog.info? 36).map (fun i => (i.zero, i.size, i.bytes)) = some (some (.agg #[.string ⟨#[]⟩, .string ⟨#[]⟩]), 2, 32) := by kernel_rfl
set_option maxHeartbeats 8000000 in
set_option maxRecDepth 1000000 in
theorem known_any (w : World) : Calls Tryz.prog 16 #[] w fun e w' => Plst w.heap.size knownL e w' ∧ Below w.heap.size w w' := by
  obtain ⟨i0, hi0, hz0, hz1, hz2⟩ := info_parts known_info
  go_enter Tryz.func16, Tryz.ntmps16
  go_wp2_with fail
  go_loopw [1, 2] (fun v i wr => ∃ (k : Nat) (V : Value), k ≤ 8 ∧ i = .int .i64 (k : Int) ∧ V = v ∧ Hid (OwnsP 36 w ((List.range k).map kn) V wr)) (fun _ i _ => 8 - (intOf i).toNat)
  case atStart => exact ⟨0, _, Nat.zero_le _, rfl, rfl, zh (ownsP_nil _ w (Below.refl _ _))⟩
  case round =>
    obtain ⟨k, v, hk, rfl, rfl, HO⟩ := hrel
    obtain ⟨zs, hz, hown, hbel⟩ := HO.out
    have HOW := zh hown
    have HBL := zh hbel
    have HZ := zh hz
    have hzl : zs.length = k := by
      have := congrArg List.length hz
      rw [pl_len, List.length_map, List.length_range] at this
      exact this
    clear hown hbel hz
    by_cases hlt : k < 8
    · obtain ⟨U, hU⟩ : ∃ U, whoN k = U := ⟨_, rfl⟩
      have HW : Hid (∀ w, Calls Tryz.prog 37 #[.int .i64 (k : Int)] w fun e w' => e = .returned (.string U) ∧ Below w.heap.size w w') := fun w => by
        have h := who_any (k : Int) w ⟨by omega, by omega⟩
        rw [Rig.pk_small hlt, hU] at h
        exact h
      have hus := who_size k
      rw [hU] at hus
      have HP := zh fun w => publicOf_any U w (by omega)
      have HKN : Hid (kn k = (U.data.toList, pubU U.data.toList)) := by show kn k = _; unfold kn; rw [hU]
      have hlt' : (k : Int) < 8 := by omega
      clear hU hus
      go_wp2_with fail
      with_reducible refine (HW.out _).mono ?_
      rintro e w1 ⟨rfl, hb1⟩
      have HB1 := zh (Bel.call HBL.out hb1)
      have HR1 := zh (own_below HOW.out hb1 zl)
      clear hb1
      dsimp only
      go_wp2_with fail
      with_reducible refine (HW.out _).mono ?_
      rintro e w2 ⟨rfl, hb2⟩
      have HB2 := zh (Bel.call HB1.out hb2)
      have HR2 := zh (own_below HR1.out hb2 zl)
      clear hb2
      dsimp only
      go_wp2_with fail
      with_reducible refine (HP.out _).mono ?_
      rintro e w3 ⟨⟨T, hT, rfl⟩, hb3⟩
      have HT := zh hT
      have HB3 := zh (Bel.call HB2.out hb3)
      have HR3 := zh (own_below HR2.out hb3 zl)
      clear hb3 hT
      dsimp only
      go_wp2_with (first
        | (at_builtin
           refine wpList_append_own _ rfl _ _ _ rfl w.heap.size 36 i0 _ 2 32 Tryz.underlying33 hi0 hz0 hz1 hz2 rfl (by decide) _ zs.length (pcs zs) rfl ?c1 _ 1 1 [.string U, .string T] rfl rfl ?c2 ?c3 ?c4 ?c5 ?c6 ?_
           case c1 => exact HR3.out.alloc _
           case c2 => exact lit_cells _ _ _
           case c3 => exact pcs_one [(U, T)]
           case c4 => simp only [maxLen]; omega
           case c5 => omega
           case c6 =>
             have h := HB3.out.size
             simp only [World.alloc, Array.size_push]
             omega
           intro v6 w6 hown hgrow _
           have HO6 := zh hown
           have HG6 := zh hgrow
           clear hown hgrow))
      go_roundw
      case rel =>
        refine ⟨k + 1, _, by omega, by go_num, rfl, zh ⟨zs ++ [(U, T)], ?_, by have := HO6.out; rw [pcs_app]; simpa [pcs] using this, ?_⟩⟩
        · rw [List.range_succ, List.map_append, List.map_cons, List.map_nil, ← HZ.out, HKN.out, ← HT.out]; simp [pl]
        · have h1 := HB3.out
          refine (h1.alloc h1.size (.cells #[.string U, .string T] 36)).grown HG6.out (by
            have := h1.size
            simp only [World.alloc, Array.size_push]
            omega) fun g hg => ?_
          exact (HOW.out.lt g hg).1
      case measure => simp [intOf]; omega
    · obtain rfl : k = 8 := by omega
      go_wp2
      go_ret
      exact ⟨ownsP_lst HO.out, HBL.out⟩
end Go.Proofs.YtlkgjceddbclpaaGreat.Mta

