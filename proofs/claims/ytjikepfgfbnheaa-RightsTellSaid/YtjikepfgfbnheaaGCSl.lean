/-
  THE LIBRARY's slices.Grow of no slice, slices.Concat (at lists of texts), by this program's own dump. By an AI agent; no person has read it.
-/
import Derived.Test.YtjikepfgfbnheaaGCPl
import Derived.Lib.AppendZeros
import Derived.Laws.AppendOwnNone
namespace Go.Proofs.Ytjikepfgfbnheaa.Rig
open Go.RowKit Wire

set_option maxHeartbeats 4000000 in
set_option maxRecDepth 1000000 in
theorem grow_nil (n : Nat) (w : World) (hn : n ≤ 1000000) :
    Calls Try.prog 53 #[.slice none 0 0, .int .i64 (n : Int)] w fun e w' => ∃ (A : Option Addr) (c : Nat), e = .returned (.slice A 0 c) ∧ w'.ownsRow w.heap.size 9 1 (.slice A 0 c) 0 (sv []) ∧ Below w.heap.size w w' := by
  by_cases h0 : n = 0
  · subst h0
    go_enter Try.func53, Try.ntmps53
    go_wp2
    go_ret
    exact ⟨none, 0, rfl, World.ownsRow_nil _ _ _ _, Below.refl _ _⟩
  · obtain ⟨i0, hi0, hz0, hz1, hz2⟩ := info_parts str_info
    have hr : ∀ ty, (Builtin.append_ #[22, 3] ty #[.slice none 0 0, .int .i64 (n : Int)]).run Try.prog w = .ok (.slice (some ⟨w.heap.size, 0, none⟩) n (grownCap w n 0 9)) (w.drew.alloc (.cells (Builtin.zeroCells #[.string ⟨#[]⟩] n ++ Builtin.zeroCells #[.string ⟨#[]⟩] (grownCap w n 0 9 - n)) 9)) := fun ty => by
      have := Lib.run_append_nil_zeros (P := Try.prog) w 22 3 ty 9 i0 _ .i64 .i64 Try.underlying22 Try.underlying3 hi0 hz0 n (by omega) (by omega) (by omega) (by rw [hz2]; omega)
      exact this
    have hg1 : n ≤ grownCap w n 0 9 := grownCap_ge w _ _ _
    have hg2 : grownCap w n 0 9 ≤ maxLen := grownCap_le_maxLen w n 0 9 (by unfold maxLen; omega)
    obtain ⟨G, hG⟩ : ∃ G, grownCap w n 0 9 = G := ⟨_, rfl⟩
    rw [hG] at hr hg1 hg2
    obtain ⟨cur, hcur⟩ : ∃ cur, (Builtin.zeroCells #[.string ⟨#[]⟩] n ++ Builtin.zeroCells #[.string ⟨#[]⟩] (G - n)) = cur := ⟨_, rfl⟩
    have hcs : cur.size = G * 1 := by
      rw [← hcur]
      simp [Builtin.zeroCells]
      omega
    rw [hcur] at hr
    have HCS := Lib.hid hcs
    have HG2 := Lib.hid hg2
    have hg3 : G ≤ 9223372036854775807 := hg2
    have hn0 : 0 < n := by omega
    have hn1 : (0 : Int) < (n : Int) := by omega
    clear hG hcur hcs hg2
    go_enter Try.func53, Try.ntmps53
    go_wp2_with (at_builtin; refine Lib.wpList_append_run _ rfl _ _ _ _ rfl _ _ rfl rfl _ _ (hr _) ?_)
    all_goals (go_ret; exact ⟨_, _, rfl, World.ownsRow_made w.drew cur G (Nat.le_refl _) HG2.out HCS.out, (Below.drewN' (Below.refl _ w) 1).alloc (Nat.le_refl _) _⟩)
/-- 'append(own, others...)', the others nil or not: an own row of both; below the base all stands. -/
theorem append_txts {w : World} {ops : Array Oper} {rest : List Oper} {o : Oper} {a : Act} {Q : Exit → Act → World → Prop} (hgd : o.guard = none) (s x : Operand)
    (ho : o.op = .call { callee := .builtin .append, args := #[s, x], argTypes := #[22, 22] }) (base : Nat)
    (v : Value) (k : Nat) (xs zs : List ByteArray) (hs : a.eval s = v) (hown : w.ownsRow base 9 1 v k (sv xs)) (hk : k = xs.length)
    (b : Option Addr) (n c : Nat) (hx : a.eval x = .slice b n c) (hn : n = zs.length) (hnil : b = none → c = 0) (hr : SReads w b zs)
    (hlen : k + zs.length ≤ 1000) (hbase : base ≤ w.heap.size)
    (h : ∀ v' w', w'.ownsRow base 9 1 v' (k + n) (sv (xs ++ zs)) → Below base w w' → wpList Try.prog ops Q rest (a.put o.dst v') w') : wpList Try.prog ops Q (o :: rest) a w := by
  obtain ⟨i0, hi0, hz0, hz1, hz2⟩ := info_parts str_info
  subst hn
  cases b with
  | none =>
    have hz : zs = [] := by
      cases zs with
      | nil => rfl
      | cons z t => obtain ⟨_, _, he, _⟩ := hr 0 (by simp); cases he
    subst hz
    rw [hnil rfl] at hx
    refine wpList_append_own_none hgd s x 22 ho base 9 i0 1 Try.underlying22 hi0 v k (sv xs) hs hown hx ?_
    exact h v w (by simpa [sv] using hown) (Below.refl _ _)
  | some ad =>
    refine wpList_append_own _ hgd s x 22 ho base 9 i0 _ 1 16 Try.underlying22 hi0 hz0 hz1 hz2 rfl (by decide) v k (sv xs) hs hown ad zs.length c (sv zs) hx (by simp [sv]) ?_ (sv_one zs) (by simp only [maxLen]; omega) (by omega) hbase ?_
    · intro j u hj
      have hjl : j < zs.length := by have := (List.getElem?_eq_some_iff.1 hj).1; simpa [sv] using this
      obtain ⟨b', o', he, _, hc⟩ := hr j hjl
      obtain rfl := Option.some.inj he
      have hu : u = .string (zs.getD j ByteArray.empty) := by
        simp [sv, hjl] at hj
        rw [← hj]; simp [List.getD, hjl]
      rw [hu, show ((⟨b', o', none⟩ : Addr).add j) = ⟨b', o' + j, none⟩ from by unfold Addr.add; split <;> simp_all]
      exact hc
    · intro v' w' hown' hgrow _
      exact h v' w' (by simpa [sv] using hown') (Below.grown (Below.refl _ _) hgrow hbase fun q hq => (hown.lt q hq).1)
/-- A row of one's own, as a part of rights. -/
theorem own_piece {w : World} {base : Nat} {v : Value} {k : Nat} {ys : List ByteArray} (h : w.ownsRow base 9 1 v k (sv ys)) : ∃ A c, v = .slice A k c ∧ k = ys.length ∧ SReads w A ys ∧ (k ≤ c ∧ (A = none → c = 0)) ∧ ∀ b off, A = some ⟨b, off, none⟩ → base ≤ b := by
  obtain ⟨A, c, rfl⟩ := own_value h
  obtain ⟨h1, h2, h3⟩ := sreads_own h
  exact ⟨A, c, rfl, h2.symm, h1, ⟨h3, own_none h⟩, own_fresh h⟩
abbrev Piece := Option Addr × Nat × List ByteArray
def pv (p : Piece) : Value := .slice p.1 p.2.2.length p.2.1
/-- Lists of texts side by side in a block. -/
def Pieces (w : World) (g : Nat) (ps : List Piece) : Prop := g < w.heap.size ∧ ∀ j A c ys, ps[j]? = some (A, c, ys) → w.cell? ⟨g, j, none⟩ = some (.slice A ys.length c) ∧ SReads w A ys ∧ (A = none → c = 0)
def whole (ps : List Piece) : List ByteArray := ps.flatMap fun p => p.2.2
theorem whole_more {ps : List Piece} {k : Nat} {A : Option Addr} {c : Nat} {ys : List ByteArray} (h : ps[k]? = some (A, c, ys)) : whole (ps.take (k + 1)) = whole (ps.take k) ++ ys := by
  rw [List.take_add_one, h]; simp [whole]
theorem whole_le {ps : List Piece} (k : Nat) : (whole (ps.take k)).length ≤ (whole ps).length := by
  have e : whole ps = whole (ps.take k) ++ whole (ps.drop k) := by
    unfold whole
    rw [← List.flatMap_append, List.take_append_drop]
  rw [e, List.length_append]; omega
theorem Pieces.below {w w' : World} {g : Nat} {ps : List Piece} {B : Nat} (h : Pieces w g ps) (hb : Below B w w') (hB : w.heap.size ≤ B) : Pieces w' g ps :=
  ⟨Nat.lt_of_lt_of_le h.1 hb.size, fun j A c ys hj => by
    obtain ⟨h1, h2, h3⟩ := h.2 j A c ys hj
    exact ⟨(hb.cell (p := ⟨g, j, none⟩) (Nat.lt_of_lt_of_le h.1 hB)).trans h1, h2.below hb hB, h3⟩⟩
set_option maxHeartbeats 4000000 in
set_option maxRecDepth 1000000 in
theorem concat_any (g : Nat) (ps : List Piece) (w : World) (hp : Pieces w g ps) (hm : ps.length ≤ 100) (hl : (whole ps).length ≤ 900) :
    Calls Try.prog 33 #[.slice (some ⟨g, 0, none⟩) ps.length ps.length] w fun e w' => Lst w.heap.size (bl (whole ps)) e w' ∧ Below w.heap.size w w' := by
  have HP := Lib.hid hp
  clear hp
  go_enter Try.func33, Try.ntmps33
  go_wp2_with fail
  go_loopw [3, 11] (fun z i wr => ∃ k : Nat, k ≤ ps.length ∧ z = .int .i64 ((whole (ps.take k)).length : Int) ∧ i = .int .i64 (k : Int) ∧ w = wr) (fun _ i _ => ps.length - (intOf i).toNat)
  case atStart => exact ⟨0, Nat.zero_le _, rfl, rfl, rfl⟩
  case round =>
    obtain ⟨k, hk, rfl, rfl, rfl⟩ := hrel
    by_cases hlt : k < ps.length
    · obtain ⟨⟨A, c, ys⟩, hpk⟩ : ∃ p, ps[k]? = some p := ⟨_, List.getElem?_eq_getElem hlt⟩
      obtain ⟨hcl, _, _⟩ := HP.out.2 k A c ys hpk
      obtain ⟨L, hL⟩ : ∃ L, (whole (ps.take k)).length = L := ⟨_, rfl⟩
      have hL2 : (whole (ps.take (k + 1))).length = L + ys.length := by rw [whole_more hpk, List.length_append, hL]
      have hle := whole_le (ps := ps) (k + 1)
      rw [hL2] at hle
      rw [hL]
      have HL2 := Lib.hid hL2
      clear hpk hL hL2
      go_wp2
      go_roundw
      case rel => exact ⟨k + 1, by omega, by rw [HL2.out]; go_num, by go_num, trivial⟩
      case measure => simp [intOf]; omega
    · obtain rfl : k = ps.length := by omega
      rw [List.take_length]
      obtain ⟨L, hL⟩ : ∃ L, (whole ps).length = L := ⟨_, rfl⟩
      have HL := Lib.hid hL
      rw [hL] at hl ⊢
      clear hL
      go_wp2_with (go_at_call 53; refine (grow_nil L _ (by omega)).mono ?_; rintro e w1 ⟨A1, c1, rfl, ho, hb⟩; have HO := Lib.hid ho; have HB := Lib.hid hb; clear ho hb)
      go_loopw [6, 27] (fun v i wr => ∃ (k : Nat) (V : Value), k ≤ ps.length ∧ V = v ∧ i = .int .i64 (k : Int) ∧ Hid (wr.ownsRow w.heap.size 9 1 V (whole (ps.take k)).length (sv (whole (ps.take k))) ∧ Below w.heap.size w wr)) (fun _ i _ => ps.length - (intOf i).toNat)
      case atStart => exact ⟨0, _, Nat.zero_le _, rfl, rfl, Lib.hid ⟨HO.out, HB.out⟩⟩
      case round =>
        obtain ⟨k, v, hk, rfl, rfl, HR⟩ := hrel
        by_cases hlt : k < ps.length
        · obtain ⟨⟨A, c, ys⟩, hpk⟩ : ∃ p, ps[k]? = some p := ⟨_, List.getElem?_eq_getElem hlt⟩
          obtain ⟨hcl, hsr, hnil⟩ := (HP.out.below HR.out.2 (Nat.le_refl _)).2 k A c ys hpk
          have HPK := Lib.hid hpk
          have HSR := Lib.hid hsr
          have HN := Lib.hid hnil
          clear hpk hsr hnil
          have hle := whole_le (ps := ps) (k + 1)
          have hL2 : (whole (ps.take (k + 1))).length = (whole (ps.take k)).length + ys.length := by rw [whole_more HPK.out, List.length_append]
          have hbd : (whole (ps.take k)).length + ys.length ≤ 1000 := by have := HL.out; omega
          clear hle hL2
          go_wp2_with (at_builtin; refine append_txts rfl _ _ rfl w.heap.size v _ _ ys rfl HR.out.1 rfl A ys.length c rfl rfl HN.out HSR.out hbd HR.out.2.size ?_; intro v2 w2 ho2 hb2; have HO2 := Lib.hid ho2; have HB2 := Lib.hid hb2; clear ho2 hb2)
          go_roundw
          case rel =>
            refine ⟨k + 1, _, by omega, rfl, by go_num, Lib.hid ⟨?_, HR.out.2.trans HB2.out⟩⟩
            rw [whole_more HPK.out, List.length_append]
            exact HO2.out
          case measure => simp [intOf]; omega
        · obtain rfl : k = ps.length := by omega
          rw [List.take_length] at HR
          have HE : Hid (Owns w (bl (whole ps)) v wr) := Lib.hid ⟨whole ps, rfl, HR.out.1, HR.out.2⟩
          go_wp2
          go_ret
          exact ⟨owns_lst HE.out, HR.out.2⟩
theorem concat_at (g m : Nat) (ps : List Piece) (w : World) (hp : Pieces w g ps) (hm0 : m = ps.length) (hm : ps.length ≤ 100) (hl : (whole ps).length ≤ 900) :
    Calls Try.prog 33 #[.slice (some ⟨g, 0, none⟩) m m] w fun e w' => Lst w.heap.size (bl (whole ps)) e w' ∧ Below w.heap.size w w' := by
  subst hm0; exact concat_any g ps w hp hm hl
end Go.Proofs.Ytjikepfgfbnheaa.Rig
