/-
  MMem, MHelp. By an AI agent.
-/
import Derived.Test.YtlkgjceddbclpaaGreatBZ
import Derived.Test.YtlkgjceddbclpaaGreatBH1
import Derived.Test.YtlkgjceddbclpaaGreatBMPure
import Derived.Laws.AppendOwnNone
import Derived.Test.YtlkgjceddbclpaaGreatBMConst
import Derived.Test.YtlkgjceddbclpaaGreatBD1
namespace Go.Proofs.YtlkgjceddbclpaaGreat.Mta
open Go.RowKit Wire Rig

def pl (ks : List (ByteArray × ByteArray)) : List (Tm × Tm) := ks.map fun k => (k.1.data.toList, k.2.data.toList)
theorem pl_len (ks : List (ByteArray × ByteArray)) : (pl ks).length = ks.length := by simp [pl]
theorem pl_get {ks : List (ByteArray × ByteArray)} {k : Nat} (hk : k < ks.length) : (pl ks).take (k + 1) = (pl ks).take k ++ [((ks.getD k default).1.data.toList, (ks.getD k default).2.data.toList)] := by
  have e : (pl ks)[k]? = some ((ks.getD k default).1.data.toList, (ks.getD k default).2.data.toList) := by
    unfold pl
    rw [List.getElem?_map, List.getElem?_eq_getElem hk]
    simp [List.getD, hk]
  rw [List.take_add_one, e]; rfl
def PReads (w : World) (a : Option Addr) (ks : List (ByteArray × ByteArray)) : Prop := ∀ j < ks.length, ∃ b off, a = some ⟨b, off, none⟩ ∧ b < w.heap.size ∧ w.cell? ⟨b, off + j * 2, none⟩ = some (.string (ks.getD j default).1) ∧ w.cell? ⟨b, off + j * 2 + 1, none⟩ = some (.string (ks.getD j default).2)
theorem PReads.nil (w : World) (a : Option Addr) : PReads w a [] := fun j hj => by simp at hj
theorem PReads.below {w w' : World} {a : Option Addr} {ks : List (ByteArray × ByteArray)} {B : Nat} (h : PReads w a ks) (hb : Below B w w') (hB : w.heap.size ≤ B) : PReads w' a ks := fun j hj => by
  obtain ⟨b, off, e, hl, h1, h2⟩ := h j hj
  have hlB := Nat.lt_of_lt_of_le hl hB
  exact ⟨b, off, e, Nat.lt_of_lt_of_le hl hb.size, (hb.cell (p := ⟨b, off + j * 2, none⟩) hlB).trans h1, (hb.cell (p := ⟨b, off + j * 2 + 1, none⟩) hlB).trans h2⟩
theorem preads_lt {w : World} {A : Option Addr} {ks : List (ByteArray × ByteArray)} (h : PReads w A ks) {b off : Nat} (e : A = some ⟨b, off, none⟩) (h0 : 0 < ks.length) : b < w.heap.size := by
  obtain ⟨b2, off2, e2, hlt, _⟩ := h 0 h0
  rw [e] at e2
  injection e2 with e2
  injection e2 with e3 _ _
  omega
theorem preads_setL {w : World} {A : Option Addr} {ks : List (ByteArray × ByteArray)} (h : PReads w A ks) {R j : Nat} {v : Value} (hR : ∀ b off, A = some ⟨b, off, none⟩ → 0 < ks.length → b ≠ R) : PReads (w.setCell ⟨R, j, none⟩ v) A ks := fun i hi => by
  obtain ⟨b, off, e, hb, h1, h2⟩ := h i hi
  have n : ∀ q, (⟨R, j, none⟩ : Addr) ≠ ⟨b, q, none⟩ := fun q e2 => hR b off e (by omega) (by injection e2 with e3 _ _; exact e3.symm)
  exact ⟨b, off, e, by simpa [World.setCell] using hb, (World.cell?_setCell_other w _ _ v (n _)).trans h1, (World.cell?_setCell_other w _ _ v (n _)).trans h2⟩
def IsM (ok : Nat → Prop) (w : World) (v : Value) (m : Mt) : Prop := ∃ (o f sig : ByteArray) (A : Option Addr) (c : Nat) (rs : List ByteArray) (B : Option Addr) (d : Nat) (ws : List ByteArray) (V : Option Addr) (cv : Nat) (vs : List ByteArray) (K : Option Addr) (ck : Nat) (ks : List (ByteArray × ByteArray)),
  v = .agg #[.string o, .string f, .int .i64 m.r.ep, .slice A rs.length c, .slice B ws.length d, .int .u64 (m.ver : Int), .slice V vs.length cv, .slice K ks.length ck, .string sig] ∧
  m = ⟨⟨o.data.toList, f.data.toList, m.r.ep, bl rs, bl ws⟩, m.ver, bl vs, pl ks, sig.data.toList⟩ ∧
  SReads w A rs ∧ SReads w B ws ∧ SReads w V vs ∧ PReads w K ks ∧ (rs.length ≤ c ∧ (A = none → c = 0)) ∧ (ws.length ≤ d ∧ (B = none → d = 0)) ∧ (vs.length ≤ cv ∧ (V = none → cv = 0)) ∧ (ks.length ≤ ck ∧ (K = none → ck = 0)) ∧
  (∀ b off, A = some ⟨b, off, none⟩ → 0 < rs.length → ok b) ∧ (∀ b off, B = some ⟨b, off, none⟩ → 0 < ws.length → ok b) ∧ (∀ b off, V = some ⟨b, off, none⟩ → 0 < vs.length → ok b) ∧ (∀ b off, K = some ⟨b, off, none⟩ → 0 < ks.length → ok b)
theorem IsM.below {ok : Nat → Prop} {w w' : World} {B : Nat} {v : Value} {m : Mt} (h : IsM ok w v m) (hb : Below B w w') (hB : w.heap.size ≤ B) : IsM ok w' v m := by
  obtain ⟨o, f, sig, A, c, rs, B', d, ws, V, cv, vs, K, ck, ks, h1, h2, h3, h4, h5, h6, h7⟩ := h
  exact ⟨o, f, sig, A, c, rs, B', d, ws, V, cv, vs, K, ck, ks, h1, h2, h3.below hb hB, h4.below hb hB, h5.below hb hB, h6.below hb hB, h7⟩
theorem IsM.mono {ok ok' : Nat → Prop} {w : World} {v : Value} {m : Mt} (h : IsM ok w v m) (hk : ∀ b, b < w.heap.size → ok b → ok' b) : IsM ok' w v m := by
  obtain ⟨o, f, sig, A, c, rs, B', d, ws, V, cv, vs, K, ck, ks, h1, h2, h3, h4, h5, h6, h7, h8, h9, h10, k1, k2, k3, k4⟩ := h
  exact ⟨o, f, sig, A, c, rs, B', d, ws, V, cv, vs, K, ck, ks, h1, h2, h3, h4, h5, h6, h7, h8, h9, h10, fun b off e h0 => hk b (sreads_lt h3 e h0) (k1 b off e h0), fun b off e h0 => hk b (sreads_lt h4 e h0) (k2 b off e h0), fun b off e h0 => hk b (sreads_lt h5 e h0) (k3 b off e h0), fun b off e h0 => hk b (preads_lt h6 e h0) (k4 b off e h0)⟩
theorem isM_zero (ok : Nat → Prop) (w : World) : IsM ok w (.agg #[.string ⟨#[]⟩, .string ⟨#[]⟩, .int .i64 0, .slice none 0 0, .slice none 0 0, .int .u64 0, .slice none 0 0, .slice none 0 0, .string ⟨#[]⟩]) mzero :=
  ⟨⟨#[]⟩, ⟨#[]⟩, ⟨#[]⟩, none, 0, [], none, 0, [], none, 0, [], none, 0, [], rfl, rfl, SReads.nil _ _, SReads.nil _ _, SReads.nil _ _, PReads.nil _ _, ⟨Nat.le_refl _, fun _ => rfl⟩, ⟨Nat.le_refl _, fun _ => rfl⟩, ⟨Nat.le_refl _, fun _ => rfl⟩, ⟨Nat.le_refl _, fun _ => rfl⟩,
    (fun _ _ h => by cases h), (fun _ _ h => by cases h), (fun _ _ h => by cases h), fun _ _ h => by cases h⟩
def Me (ok : Nat → Prop) (x : Mt × Int) (e : Ending) (w' : World) : Prop := ∃ v, IsM ok w' v x.1 ∧ e = .returned (.tuple #[v, .int .i64 x.2])
theorem isM_lit {ok : Nat → Prop} {w : World} {v : Value} {m : Mt} (h : IsM ok w v m) : ∃ (o f sig : ByteArray) (ep : Int) (A : Option Addr) (c : Nat) (rs : List ByteArray) (B : Option Addr) (d : Nat) (ws : List ByteArray) (ver : Nat) (V : Option Addr) (cv : Nat) (vs : List ByteArray) (K : Option Addr) (ck : Nat) (ks : List (ByteArray × ByteArray)),
    v = .agg #[.string o, .string f, .int .i64 ep, .slice A rs.length c, .slice B ws.length d, .int .u64 (ver : Int), .slice V vs.length cv, .slice K ks.length ck, .string sig] ∧
    m = ⟨⟨o.data.toList, f.data.toList, ep, bl rs, bl ws⟩, ver, bl vs, pl ks, sig.data.toList⟩ ∧ SReads w A rs ∧ SReads w B ws ∧ SReads w V vs ∧ PReads w K ks ∧
    IsX ok w (.agg #[.string o, .string f, .int .i64 ep, .slice A rs.length c, .slice B ws.length d]) ⟨o.data.toList, f.data.toList, ep, bl rs, bl ws⟩ := by
  obtain ⟨o, f, sig, A, c, rs, B', d, ws, V, cv, vs, K, ck, ks, h1, h2, h3, h4, h5, h6, h7, h8, h9, h10, k1, k2, k3, k4⟩ := h
  exact ⟨o, f, sig, m.r.ep, A, c, rs, B', d, ws, m.ver, V, cv, vs, K, ck, ks, h1, h2, h3, h4, h5, h6, ⟨o, f, A, c, rs, B', d, ws, rfl, rfl, h3, h4, h7, h8, k1, k2⟩⟩
def FewM (m : Mt) : Prop := Few m.r ∧ m.vf.length ≤ 40 ∧ m.bs.length ≤ 40 ∧ (∀ t ∈ m.vf, t.length ≤ 10000) ∧ (∀ b ∈ m.bs, b.1.length ≤ 10000 ∧ b.2.length ≤ 10000) ∧ m.sig.length ≤ 10000 ∧ m.ver < 18446744073709551616
end Go.Proofs.YtlkgjceddbclpaaGreat.Mta

namespace Go.Proofs.YtlkgjceddbclpaaGreat.Mta
open Go.RowKit Wire Term Rig Draw

set_option linter.unusedSimpArgs false
set_option maxHeartbeats 2000000 in
set_option maxRecDepth 1000000 in
theorem secretOf_any (s : ByteArray) (w : World) (hs : s.size ≤ 12) : Calls Tryz.prog 14 #[.string s] w fun e w' => St (secU s.data.toList) e ∧ Below w.heap.size w w' := by
  have HS : Hid (∀ w, Calls Tryz.prog 49 #[.string ⟨#[117, 115, 101, 114]⟩, .string s, .int .u64 1] w fun e w' => Sr (secU s.data.toList, 0) e ∧ Below w.heap.size w w') := fun w => by
    have h := rsecret_any ⟨#[117, 115, 101, 114]⟩ s 1 w (by decide) (by omega) (by show 4 + s.size ≤ _; omega) (by omega)
    rw [show secret (ByteArray.mk #[117, 115, 101, 114]).data.toList s.data.toList 1 = (secU s.data.toList, 0) from secU_is (by rw [← Lib.size_eq]; exact hs)] at h
    exact h
  go_enter Tryz.func14, Tryz.ntmps14
  go_wp2_with fail
  with_reducible refine (HS.out _).mono ?_
  rintro e w1 ⟨⟨T, hT, rfl⟩, hb1⟩
  try dsimp only at hT
  have HT := zh hT
  have HB := zh hb1
  clear hT hb1
  dsimp only
  go_wp2
  go_ret
  exact ⟨⟨T, HT.out, rfl⟩, HB.out⟩
set_option maxHeartbeats 2000000 in
set_option maxRecDepth 1000000 in
theorem publicOf_any (s : ByteArray) (w : World) (hs : s.size ≤ 12) : Calls Tryz.prog 36 #[.string s] w fun e w' => St (pubU s.data.toList) e ∧ Below w.heap.size w w' := by
  have hl : s.data.toList.length ≤ 12 := by rw [← Lib.size_eq]; exact hs
  have HS := zh fun w => secretOf_any s w hs
  have HP : Hid (∀ (T : ByteArray) (w : World), T.data.toList = secU s.data.toList → Calls Tryz.prog 41 #[.string T] w fun e w' => Sr (pubU s.data.toList, 0) e ∧ Below w.heap.size w w') := fun T w hT => by
    have h := ofPublic_any T w (by rw [Lib.size_eq, hT]; have := (secU_sz hl).2; omega)
    rw [hT, pubU_is hl] at h
    exact h
  go_enter Tryz.func36, Tryz.ntmps36
  go_wp2_with fail
  with_reducible refine (HS.out _).mono ?_
  rintro e w1 ⟨⟨T, hT, rfl⟩, hb1⟩
  try dsimp only at hT
  have HT := zh hT
  have HB := zh hb1
  clear hT hb1
  dsimp only
  go_wp2_with fail
  with_reducible refine (HP.out T _ HT.out).mono ?_
  rintro e w2 ⟨⟨U, hU, rfl⟩, hb2⟩
  try dsimp only at hU
  have HU := zh hU
  have HB2 := zh (Bel.call HB.out hb2)
  clear hU hb2
  dsimp only
  go_wp2
  go_ret
  exact ⟨⟨U, HU.out, rfl⟩, HB2.out⟩
set_option maxHeartbeats 2000000 in
set_option maxRecDepth 1000000 in
theorem rootOf_any (c : Int) (w : World) (hc : -9223372036854775808 ≤ c ∧ c ≤ 9223372036854775807) : Calls Tryz.prog 15 #[.int .i64 c] w fun e w' => St (Reg.rootS (Rig.pk c 5)) e ∧ Below w.heap.size w w' := by
  have hlt := Rig.pk_lt c (n := 5) (by decide)
  obtain ⟨m, hm⟩ : ∃ m, Rig.pk c 5 = m := ⟨_, rfl⟩
  have HP : Hid (∀ w, Calls Tryz.prog 12 #[.int .i64 c, .int .i64 5] w fun e w' => e = .returned (.int .i64 (Rig.pk c 5 : Int)) ∧ w' = w) := fun w => pick7_any c 5 w hc (by decide) (by decide)
  rw [hm] at HP hlt ⊢
  have HS : Hid (∀ w, Calls Tryz.prog 49 #[.string ⟨#[114, 111, 111, 116]⟩, .string ⟨#[120]⟩, .int .u64 (m : Int)] w fun e w' => Sr (Reg.rootS m, 0) e ∧ Below w.heap.size w w') := fun w => by
    have h := rsecret_any ⟨#[114, 111, 111, 116]⟩ ⟨#[120]⟩ m w (by decide) (by decide) (by decide) (by omega)
    rw [show secret (ByteArray.mk #[114, 111, 111, 116]).data.toList (ByteArray.mk #[120]).data.toList m = (Reg.rootS m, 0) from root_is (by omega)] at h
    exact h
  have hw : IntKind.u64.wrap (m : Int) = (m : Int) := by rw [IntKind.wrap_u64]; omega
  clear hm
  go_enter Tryz.func15, Tryz.ntmps15
  go_wp2_with fail
  with_reducible refine (HP.out _).mono ?_
  rintro e w1 ⟨rfl, rfl⟩
  dsimp only
  go_wp2_with fail
  with_reducible refine (HS.out _).mono ?_
  rintro e w1 ⟨⟨T, hT, rfl⟩, hb1⟩
  try dsimp only at hT
  have HT := zh hT
  have HB := zh hb1
  clear hT hb1
  dsimp only
  go_wp2
  go_ret
  exact ⟨⟨T, HT.out, rfl⟩, HB.out⟩
theorem sgs_succ (k : Nat) : sgs (k + 1) = sgs k ++ [sgn k] := by unfold sgs; rw [List.range_succ, List.map_append]; rfl
set_option maxHeartbeats 4000000 in
set_option maxRecDepth 1000000 in
theorem signersOf_any (n : Nat) (w : World) (hn : n ≤ 40) : Calls Tryz.prog 13 #[.int .i64 (n : Int)] w fun e w' => Lst w.heap.size (sgs n) e w' ∧ Below w.heap.size w w' := by
  obtain ⟨i0, hi0, hz0, hz1, hz2⟩ := info_parts str_info
  have HS : Hid (∀ (i : Nat) (w : World), i ≤ 40 → Calls Tryz.prog 49 #[.string ⟨#[115, 105, 103, 110]⟩, .string ⟨#[120]⟩, .int .u64 (i : Int)] w fun e w' => Sr (sgn i, 0) e ∧ Below w.heap.size w w') := fun i w hi => by
    have h := rsecret_any ⟨#[115, 105, 103, 110]⟩ ⟨#[120]⟩ i w (by decide) (by decide) (by decide) (by omega)
    rw [show secret (ByteArray.mk #[115, 105, 103, 110]).data.toList (ByteArray.mk #[120]).data.toList i = (sgn i, 0) from sgn_is (by omega)] at h
    exact h
  go_enter Tryz.func13, Tryz.ntmps13
  go_wp2_with fail
  go_loopw [3, 4] (fun v i wr => ∃ (k : Nat) (V : Value), k ≤ n ∧ i = .int .i64 (k : Int) ∧ V = v ∧ Hid (Owns w (sgs k) V wr)) (fun _ i _ => n - (intOf i).toNat)
  case atStart => exact ⟨0, _, Nat.zero_le _, rfl, rfl, zh (owns_nil w (Below.refl _ _))⟩
  case round =>
    obtain ⟨k, v, hk, rfl, rfl, HO⟩ := hrel
    obtain ⟨zs, hz, hown, hbel⟩ := HO.out
    have HOW := zh hown
    have HBL := zh hbel
    have HZ := zh hz
    have hzl : zs.length = k := by
      have := congrArg List.length hz
      rw [bl_len, sgs_len] at this
      exact this
    clear hown hbel hz
    by_cases hlt : k < n
    · have hw : IntKind.u64.wrap (k : Int) = (k : Int) := by rw [IntKind.wrap_u64]; omega
      go_wp2_with fail
      with_reducible refine (HS.out k _ (by omega)).mono ?_
      rintro e w1 ⟨⟨T, hT, rfl⟩, hb1⟩
      try dsimp only at hT
      have HT := zh hT
      have HB := zh hb1
      clear hT hb1
      dsimp only
      go_wp2_with (first
        | (at_builtin
           refine wpList_append_own _ rfl _ _ _ rfl w.heap.size 9 i0 _ 1 16 Tryz.underlying25 hi0 hz0 hz1 hz2 rfl (by decide) _ zs.length (sv zs) rfl ?c1 _ 1 1 [.string T] rfl rfl ?c2 ?c3 ?c4 ?c5 ?c6 ?_
           case c1 => exact (own_below HOW.out HB.out zl).alloc _
           case c2 => exact lit_cells _ _ _
           case c3 => exact sv_one [T]
           case c4 => simp only [maxLen]; omega
           case c5 => omega
           case c6 =>
             have h := HBL.out.size
             have h2 := HB.out.size
             simp only [World.alloc, Array.size_push]
             omega
           intro v6 w6 hown hgrow _
           have HO6 := zh hown
           have HG6 := zh hgrow
           clear hown hgrow))
      go_roundw
      case rel =>
        refine ⟨k + 1, _, by omega, by go_num, rfl, zh ⟨zs ++ [T], ?_, by simpa [sv] using HO6.out, ?_⟩⟩
        · rw [sgs_succ, ← HZ.out, ← HT.out]; simp [bl]
        · have h1 := Bel.call HBL.out HB.out
          refine (h1.alloc h1.size (.cells #[.string T] 9)).grown HG6.out (by
            have := h1.size
            simp only [World.alloc, Array.size_push]
            omega) fun g hg => ?_
          exact (HOW.out.lt g hg).1
      case measure => simp [intOf]; omega
    · obtain rfl : k = n := by omega
      go_wp2
      go_ret
      exact ⟨owns_lst HO.out, HBL.out⟩
end Go.Proofs.YtlkgjceddbclpaaGreat.Mta

