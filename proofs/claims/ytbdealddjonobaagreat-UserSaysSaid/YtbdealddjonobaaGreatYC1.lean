/-
  C1. By an AI agent.
-/
import Derived.Test.YtbdealddjonobaaGreatYZ
import Derived.Lib.AppendZeros
import Derived.Laws.AppendOwnNone
import Derived.Test.YtbdealddjonobaaGreatYG1
import Derived.Test.YtbdealddjonobaaGreatYG2
import Derived.Test.YtbdealddjonobaaGreatYH1
import Derived.Test.YtbdealddjonobaaGreatYW1
namespace Go.Proofs.YtbdealddjonobaaGreat.Rig
open Go.RowKit Wire

def plc (u : Tm) : List Tm → Nat × Bool
  | [] => (0, false)
  | y :: l => if lt y u = true then ((plc u l).1 + 1, (plc u l).2) else (0, !lt u y)
theorem plc_le (u : Tm) : ∀ l : List Tm, (plc u l).1 ≤ l.length
 | [] => Nat.le_refl _
 | y :: l => by
  unfold plc
  split
  · simpa using plc_le u l
  · exact Nat.zero_le _
theorem plc_stop {u y : Tm} {l : List Tm} (h : lt y u = false) : plc u (y :: l) = (0, !lt u y) := by
 unfold plc; rw [if_neg (by simp [h])]
theorem plc_step {u y : Tm} {l : List Tm} (h : lt y u = true) : plc u (y :: l) = ((plc u l).1 + 1, (plc u l).2) := by
 rw [plc, if_pos h]
theorem plc_mem (u : Tm) : ∀ {l : List Tm}, l.Pairwise (fun a b => lt a b = true) → (plc u l).2 = decide (u ∈ l)
 | [], _ => by simp [plc]
 | y :: l, h => by
  obtain ⟨h1, h2⟩ := List.pairwise_cons.1 h
  by_cases hy : lt y u = true
  ·
   rw [plc_step hy]
   show (plc u l).2 = _
   rw [plc_mem u h2]
   have hne : u ≠ y := fun e => by rw [e, lt_irrefl] at hy; cases hy
   simp [hne]
  ·
   rw [plc_stop (by simpa using hy)]
   show (!lt u y) = _
   by_cases hu : lt u y = true
   ·
    have hne : u ≠ y := fun e => by rw [e, lt_irrefl] at hu; cases hu
    have hn : u ∉ l := fun hm => by
     have := lt_trans hu (h1 u hm)
     rw [lt_irrefl] at this; cases this
    simp [hu, hne, hn]
   ·
    have e : u = y := by
     rcases lt_tri u y with h | h | h
     · exact absurd h hu
     · exact h
     · exact absurd h hy
    simp [e, lt_irrefl]
theorem plc_ins (u : Tm) : ∀ {l : List Tm}, u ∉ l → l.take (plc u l).1 ++ u :: l.drop (plc u l).1 = ins u l
 | [], _ => rfl
 | y :: l, hn => by
  have hy : ¬ u = y := fun e => hn (by rw [e]; simp)
  have hl : u ∉ l := fun hm => hn (List.mem_cons_of_mem _ hm)
  by_cases h : lt y u = true
  ·
   rw [plc_step h]
   show y :: (l.take (plc u l).1 ++ u :: l.drop (plc u l).1) = _
   rw [plc_ins u hl, ins, if_neg (by rw [lt_asymm h]; simp)]
  ·
   rw [plc_stop (by simpa using h)]
   have h2 : lt u y = true := by
    rcases lt_tri u y with h3 | h3 | h3
    · exact h3
    · exact absurd h3 hy
    · exact absurd h3 h
   show u :: y :: l = _
   rw [ins, if_pos h2]
theorem plc_del (u : Tm) : ∀ {l : List Tm}, l.Pairwise (fun a b => lt a b = true) → u ∈ l → (plc u l).1 < l.length ∧ l.take (plc u l).1 ++ l.drop ((plc u l).1 + 1) = del u l
 | [], _, h => by cases h
 | y :: l, hp, hm => by
  obtain ⟨h1, h2⟩ := List.pairwise_cons.1 hp
  by_cases h : lt y u = true
  ·
   have hne : ¬ y = u := fun e => by rw [e, lt_irrefl] at h; cases h
   have hml : u ∈ l := by
    rcases List.mem_cons.1 hm with e | e
    · exact absurd e.symm hne
    · exact e
   obtain ⟨g1, g2⟩ := plc_del u h2 hml; rw [plc_step h]
   refine ⟨by simp only [List.length_cons]; omega, ?_⟩
   show y :: (l.take (plc u l).1 ++ l.drop ((plc u l).1 + 1)) = _
   rw [g2, del, del, List.filter_cons, if_pos (by simpa using hne)]
  ·
   have e : y = u := by
    rcases List.mem_cons.1 hm with e | e
    · exact e.symm
    · exact absurd (h1 u e) h
   subst e
   rw [plc_stop (by simpa using h)]
   refine ⟨by simp, ?_⟩
   show l = _
   have hn : y ∉ l := fun hm2 => by
    have := h1 y hm2
    rw [lt_irrefl] at this; cases this
   rw [del, List.filter_cons, if_neg (by simp)]
   exact (del_not hn).symm
theorem plc_more (u y : Tm) : ∀ {a b : List Tm}, (∀ x ∈ a, lt x u = true) → plc u (a ++ b) = (a.length + (plc u b).1, (plc u b).2)
 | [], b, _ => by simp
 | x :: a, b, h => by
  rw [List.cons_append, plc_step (h x (by simp)), plc_more u y (a := a) fun z hz => h z (List.mem_cons_of_mem _ hz)]
  simp only [List.length_cons]
  rw [show a.length + (plc u b).1 + 1 = a.length + 1 + (plc u b).1 by omega]
theorem plc_at {u : Tm} {ys : List ByteArray} {k : Nat} {y : ByteArray} (hk : k < ys.length) (hy : ys.getD k ByteArray.empty = y) (ha : ∀ x ∈ (bl ys).take k, lt x u = true) (h : lt y.data.toList u = false) : plc u (bl ys) = (k, !lt u y.data.toList) := by
 have e := bl_drop (ys := ys) hk
 rw [hy] at e
 have e2 : bl ys = (bl ys).take k ++ y.data.toList :: (bl ys).drop (k + 1) := by rw [← e, List.take_append_drop]
 have hl : ((bl ys).take k).length = k := by rw [List.length_take, bl_len]; omega
 rw [e2, plc_more u y.data.toList ha, plc_stop h, hl]; rfl
theorem plc_end {u : Tm} {ys : List ByteArray} (ha : ∀ x ∈ (bl ys).take ys.length, lt x u = true) : plc u (bl ys) = (ys.length, false) := by
 rw [bl_take_all] at ha
 have := plc_more u u (b := []) ha
 rw [List.append_nil, bl_len] at this
 exact this
set_option maxHeartbeats 4000000 in
set_option maxRecDepth 1000000 in
theorem place_any (a : Option Addr) (c : Nat) (ys : List ByteArray) (u : ByteArray) (w : World) (hr : SReads w a ys) (hn : ys.length ≤ 1000000) :
  Calls Tryz.prog 183 #[.slice a ys.length c, .string u, .func (.func 112) #[] #[]] w fun e w' => e = .returned (.tuple #[.int .i64 ((plc u.data.toList (bl ys)).1 : Int), .bool (plc u.data.toList (bl ys)).2]) ∧ Below w.heap.size w w' := by
 obtain ⟨P, B, hp⟩ : ∃ P B, plc u.data.toList (bl ys) = (P, B) := ⟨_, _, rfl⟩; rw [hp]; have HP := zh hp; have HR := zh hr; clear hr hp; dsimp only
 go_enter Tryz.func183, Tryz.ntmps183
 go_wp2_with fail
 go_loopw [12] (fun i wr => ∃ k : Nat, k ≤ ys.length ∧ i = .int .i64 (k : Int) ∧ Hid (∀ x ∈ (bl ys).take k, lt x u.data.toList = true) ∧ wr = w) (fun i _ => ys.length - (intOf i).toNat)
 case atStart => exact ⟨0, Nat.zero_le _, rfl, zh (by simp), rfl⟩
 case round =>
  obtain ⟨k, hk, rfl, HA, rfl⟩ := hrel
  by_cases hlt : k < ys.length
  ·
   obtain ⟨bk, off, rfl, hbl, hcl⟩ := HR.out k hlt; obtain ⟨y, hy⟩ : ∃ y, ys.getD k ByteArray.empty = y := ⟨_, rfl⟩; rw [hy] at hcl; have HY := zh hy; clear hy hbl; obtain ⟨b1, hb1⟩ : ∃ b, lt y.data.toList u.data.toList = b := ⟨_, rfl⟩; have HB1 := zh hb1
   cases b1 with
   | true =>
    clear hb1
    go_wp2_with (go_at_call 112; refine (less_any _ _ _).mono ?_; rintro e w1 ⟨rfl, rfl⟩; rw [show Op.bytesLess y.data.toList u.data.toList = true from HB1.out])
    go_roundw
    case rel =>
     refine ⟨k + 1, by omega, by go_num, zh ?_, trivial⟩
     have hg := bl_get (ys := ys) hlt
     rw [HY.out] at hg; rw [hg]
     intro x hx
     rcases List.mem_append.1 hx with hx | hx
     · exact HA.out x hx
     · rw [List.mem_singleton.1 hx]; exact HB1.out
    case measure => simp [intOf]; omega
   | false =>
    have hpl := plc_at hlt HY.out HA.out hb1
    rw [HP.out] at hpl; obtain ⟨rfl, hB⟩ := Prod.mk.inj hpl; have HBB := zh hB; clear hb1 hpl hB
    go_wp2_with (go_at_call 112; refine (less_any _ _ _).mono ?_; rintro e w1 ⟨rfl, rfl⟩; first | rw [show Op.bytesLess y.data.toList u.data.toList = false from HB1.out] | skip)
    go_ret2
    exact ⟨by rw [HBB.out]; rfl, Below.refl _ _⟩
  ·
   have hk2 : k = ys.length := by omega
   have hpl := plc_end (u := u.data.toList) (ys := ys) (by have := HA.out; rw [hk2] at this; exact this)
   rw [HP.out] at hpl; obtain ⟨rfl, rfl⟩ := Prod.mk.inj hpl; clear hpl
   subst hk2
   go_wp2
   go_ret2
   exact ⟨rfl, Below.refl _ _⟩
set_option maxHeartbeats 2000000 in
set_option maxRecDepth 1000000 in
theorem among_any (a : Option Addr) (c : Nat) (ys : List ByteArray) (u : ByteArray) (w : World) (hr : SReads w a ys) (hn : ys.length ≤ 1000000) (hp : (bl ys).Pairwise (fun a b => lt a b = true)) :
  Calls Tryz.prog 145 #[.slice a ys.length c, .string u] w fun e w' => e = .returned (.bool (decide (u.data.toList ∈ bl ys))) ∧ Below w.heap.size w w' := by
 rw [← plc_mem u.data.toList hp]; have HR := zh hr; clear hr hp
 have hmf : ∀ (fn : Fn) (first cap : Array Value) (w : World), (Instr.makeFunc fn first cap).run Tryz.prog w = .ok (.func fn first cap) w := fun _ _ _ _ => rfl
 go_enter Tryz.func145, Tryz.ntmps145
 go_wp2_with (go_at_call 183; refine (place_any _ _ _ _ _ HR.out hn).mono ?_; rintro e w1 ⟨rfl, hb⟩; have HB := zh hb; clear hb; dsimp only)
 go_ret
 exact ⟨rfl, HB.out⟩
end Go.Proofs.YtbdealddjonobaaGreat.Rig

namespace Go.Proofs.YtbdealddjonobaaGreat.Rig
open Go.RowKit Wire

set_option maxHeartbeats 4000000 in
set_option maxRecDepth 1000000 in
theorem grow_nil (n : Nat) (w : World) (hn : n ≤ 1000000) :
  Calls Tryz.prog 184 #[.slice none 0 0, .int .i64 (n : Int)] w fun e w' => ∃ (A : Option Addr) (c : Nat), e = .returned (.slice A 0 c) ∧ w'.ownsRow w.heap.size 9 1 (.slice A 0 c) 0 (sv []) ∧ Below w.heap.size w w' := by
 by_cases h0 : n = 0
 ·
  subst h0
  go_enter Tryz.func184, Tryz.ntmps184
  go_wp2
  go_ret
  exact ⟨none, 0, rfl, World.ownsRow_nil _ _ _ _, Below.refl _ _⟩
 ·
  obtain ⟨i0, hi0, hz0, hz1, hz2⟩ := info_parts str_info
  have hr : ∀ ty, (Builtin.append_ #[44, 3] ty #[.slice none 0 0, .int .i64 (n : Int)]).run Tryz.prog w = .ok (.slice (some ⟨w.heap.size, 0, none⟩) n (grownCap w n 0 9)) (w.drew.alloc (.cells (Builtin.zeroCells #[.string ⟨#[]⟩] n ++ Builtin.zeroCells #[.string ⟨#[]⟩] (grownCap w n 0 9 - n)) 9)) := fun ty => by
   have := Lib.run_append_nil_zeros (P := Tryz.prog) w 44 3 ty 9 i0 _ .i64 .i64 Tryz.underlying44 Tryz.underlying3 hi0 hz0 n (by omega) (by omega) (by omega) (by rw [hz2]; omega)
   exact this
  have hg1 : n ≤ grownCap w n 0 9 := grownCap_ge w _ _ _
  have hg2 : grownCap w n 0 9 ≤ maxLen := grownCap_le_maxLen w n 0 9 (by unfold maxLen; omega)
  obtain ⟨G, hG⟩ : ∃ G, grownCap w n 0 9 = G := ⟨_, rfl⟩; rw [hG] at hr hg1 hg2; obtain ⟨cur, hcur⟩ : ∃ cur, (Builtin.zeroCells #[.string ⟨#[]⟩] n ++ Builtin.zeroCells #[.string ⟨#[]⟩] (G - n)) = cur := ⟨_, rfl⟩
  have hcs : cur.size = G * 1 := by
   rw [← hcur]
   simp [Builtin.zeroCells]
   omega
  rw [hcur] at hr; have HCS := zh hcs; have HG2 := zh hg2
  have hg3 : G ≤ 9223372036854775807 := hg2
  have hn0 : 0 < n := by omega
  have hn1 : (0 : Int) < (n : Int) := by omega
  clear hG hcur hcs hg2
  go_enter Tryz.func184, Tryz.ntmps184
  go_wp2_with (at_builtin; refine Lib.wpList_append_run _ rfl _ _ _ _ rfl _ _ rfl rfl _ _ (hr _) ?_)
  all_goals (go_ret; exact ⟨_, _, rfl, World.ownsRow_made w.drew cur G zl HG2.out HCS.out, (Below.drewN' (Below.refl _ w) 1).alloc zl _⟩)
theorem append_txts {w : World} {ops : Array Oper} {rest : List Oper} {o : Oper} {a : Act} {Q : Exit → Act → World → Prop} (hgd : o.guard = none) (s x : Operand)
  (ho : o.op = .call { callee := .builtin .append, args := #[s, x], argTypes := #[44, 44] }) (base : Nat)
  (v : Value) (k : Nat) (xs zs : List ByteArray) (hs : a.eval s = v) (hown : w.ownsRow base 9 1 v k (sv xs)) (hk : k = xs.length)
  (b : Option Addr) (n c : Nat) (hx : a.eval x = .slice b n c) (hn : n = zs.length) (hnil : b = none → c = 0) (hr : SReads w b zs)
  (hlen : k + zs.length ≤ 1000) (hbase : base ≤ w.heap.size)
  (h : ∀ v' w', w'.ownsRow base 9 1 v' (k + n) (sv (xs ++ zs)) → Below base w w' → wpList Tryz.prog ops Q rest (a.put o.dst v') w') : wpList Tryz.prog ops Q (o :: rest) a w := by
 obtain ⟨i0, hi0, hz0, hz1, hz2⟩ := info_parts str_info
 subst hn
 cases b with
 | none =>
  have hz : zs = [] := by
   cases zs with
   | nil => rfl
   | cons z t => obtain ⟨_, _, he, _⟩ := hr 0 (by simp); cases he
  subst hz
  rw [hnil rfl] at hx
  refine wpList_append_own_none hgd s x 44 ho base 9 i0 1 Tryz.underlying44 hi0 v k (sv xs) hs hown hx ?_
  exact h v w (by simpa [sv] using hown) (Below.refl _ _)
 | some ad =>
  refine wpList_append_own _ hgd s x 44 ho base 9 i0 _ 1 16 Tryz.underlying44 hi0 hz0 hz1 hz2 rfl (by decide) v k (sv xs) hs hown ad zs.length c (sv zs) hx (by simp [sv]) ?_ (sv_one zs) (by simp only [maxLen]; omega) (by omega) hbase ?_
  ·
   intro j u hj
   have hjl : j < zs.length := by have := (List.getElem?_eq_some_iff.1 hj).1; simpa [sv] using this
   obtain ⟨b', o', he, _, hc⟩ := hr j hjl
   obtain rfl := Option.some.inj he
   have hu : u = .string (zs.getD j ByteArray.empty) := by
    simp [sv, hjl] at hj
    rw [← hj]; simp [List.getD, hjl]
   rw [hu, show ((⟨b', o', none⟩ : Addr).add j) = ⟨b', o' + j, none⟩ from by unfold Addr.add; split <;> simp_all]
   exact hc
  ·
   intro v' w' hown' hgrow _
   exact h v' w' (by simpa [sv] using hown') (Below.grown (Below.refl _ _) hgrow hbase fun q hq => (hown.lt q hq).1)
abbrev Piece := Option Addr × Nat × List ByteArray
def Pieces (w : World) (g : Nat) (ps : List Piece) : Prop := g < w.heap.size ∧ ∀ j A c ys, ps[j]? = some (A, c, ys) → w.cell? ⟨g, j, none⟩ = some (.slice A ys.length c) ∧ SReads w A ys ∧ (A = none → c = 0)
def whole (ps : List Piece) : List ByteArray := ps.flatMap fun p => p.2.2
theorem whole_more {ps : List Piece} {k : Nat} {A : Option Addr} {c : Nat} {ys : List ByteArray} (h : ps[k]? = some (A, c, ys)) : whole (ps.take (k + 1)) = whole (ps.take k) ++ ys := by
 rw [List.take_add_one, h]; simp [whole]
theorem whole_le {ps : List Piece} (k : Nat) : (whole (ps.take k)).length ≤ (whole ps).length := by
 have e : whole ps = whole (ps.take k) ++ whole (ps.drop k) := by
  unfold whole
  rw [← List.flatMap_append, List.take_append_drop]
 rw [e, List.length_append]; omega
theorem Pieces.below {w w' : World} {g : Nat} {ps : List Piece} {B : Nat} (h : Pieces w g ps) (hb : Below B w w') (hB : w.heap.size ≤ B) : Pieces w' g ps :=
 ⟨Nat.lt_of_lt_of_le h.1 hb.size, fun j A c ys hj => by
  obtain ⟨h1, h2, h3⟩ := h.2 j A c ys hj
  exact ⟨(hb.cell (p := ⟨g, j, none⟩) (Nat.lt_of_lt_of_le h.1 hB)).trans h1, h2.below hb hB, h3⟩⟩
set_option maxHeartbeats 4000000 in
set_option maxRecDepth 1000000 in
theorem concat_own (g : Nat) (ps : List Piece) (w : World) (hp : Pieces w g ps) (hm : ps.length ≤ 100) (hl : (whole ps).length ≤ 900) :
  Calls Tryz.prog 146 #[.slice (some ⟨g, 0, none⟩) ps.length ps.length] w fun e w' => (∃ v, e = .returned v ∧ Owns w (bl (whole ps)) v w') ∧ Below w.heap.size w w' := by
 have HP := zh hp; clear hp
 go_enter Tryz.func146, Tryz.ntmps146
 go_wp2_with fail
 go_loopw [3, 11] (fun z i wr => ∃ k : Nat, k ≤ ps.length ∧ z = .int .i64 ((whole (ps.take k)).length : Int) ∧ i = .int .i64 (k : Int) ∧ w = wr) (fun _ i _ => ps.length - (intOf i).toNat)
 case atStart => exact ⟨0, Nat.zero_le _, rfl, rfl, rfl⟩
 case round =>
  obtain ⟨k, hk, rfl, rfl, rfl⟩ := hrel
  by_cases hlt : k < ps.length
  ·
   obtain ⟨⟨A, c, ys⟩, hpk⟩ : ∃ p, ps[k]? = some p := ⟨_, List.getElem?_eq_getElem hlt⟩; obtain ⟨hcl, _, _⟩ := HP.out.2 k A c ys hpk; obtain ⟨L, hL⟩ : ∃ L, (whole (ps.take k)).length = L := ⟨_, rfl⟩
   have hL2 : (whole (ps.take (k + 1))).length = L + ys.length := by rw [whole_more hpk, List.length_append, hL]
   have hle := whole_le (ps := ps) (k + 1)
   rw [hL2] at hle; rw [hL]; have HL2 := zh hL2; clear hpk hL hL2
   go_wp2
   go_roundw
   case rel => exact ⟨k + 1, by omega, by rw [HL2.out]; go_num, by go_num, trivial⟩
   case measure => simp [intOf]; omega
  ·
   obtain rfl : k = ps.length := by omega
   rw [List.take_length]; obtain ⟨L, hL⟩ : ∃ L, (whole ps).length = L := ⟨_, rfl⟩; have HL := zh hL; rw [hL] at hl ⊢; clear hL
   go_wp2_with (go_at_call 184; refine (grow_nil L _ (by omega)).mono ?_; rintro e w1 ⟨A1, c1, rfl, ho, hb⟩; have HO := zh ho; have HB := zh hb; clear ho hb)
   go_loopw [6, 27] (fun v i wr => ∃ (k : Nat) (V : Value), k ≤ ps.length ∧ V = v ∧ i = .int .i64 (k : Int) ∧ Hid (wr.ownsRow w.heap.size 9 1 V (whole (ps.take k)).length (sv (whole (ps.take k))) ∧ Below w.heap.size w wr)) (fun _ i _ => ps.length - (intOf i).toNat)
   case atStart => exact ⟨0, _, Nat.zero_le _, rfl, rfl, zh ⟨HO.out, HB.out⟩⟩
   case round =>
    obtain ⟨k, v, hk, rfl, rfl, HR⟩ := hrel
    by_cases hlt : k < ps.length
    ·
     obtain ⟨⟨A, c, ys⟩, hpk⟩ : ∃ p, ps[k]? = some p := ⟨_, List.getElem?_eq_getElem hlt⟩; obtain ⟨hcl, hsr, hnil⟩ := (HP.out.below HR.out.2 zl).2 k A c ys hpk; have HPK := zh hpk; have HSR := zh hsr; have HN := zh hnil; clear hpk hsr hnil
     have hle := whole_le (ps := ps) (k + 1)
     have hL2 : (whole (ps.take (k + 1))).length = (whole (ps.take k)).length + ys.length := by rw [whole_more HPK.out, List.length_append]
     have hbd : (whole (ps.take k)).length + ys.length ≤ 1000 := by have := HL.out; omega
     clear hle hL2
     go_wp2_with (at_builtin; refine append_txts rfl _ _ rfl w.heap.size v _ _ ys rfl HR.out.1 rfl A ys.length c rfl rfl HN.out HSR.out hbd HR.out.2.size ?_; intro v2 w2 ho2 hb2; have HO2 := zh ho2; have HB2 := zh hb2; clear ho2 hb2)
     go_roundw
     case rel =>
      refine ⟨k + 1, _, by omega, rfl, by go_num, zh ⟨?_, HR.out.2.trans HB2.out⟩⟩
      rw [whole_more HPK.out, List.length_append]
      exact HO2.out
     case measure => simp [intOf]; omega
    ·
     obtain rfl : k = ps.length := by omega
     rw [List.take_length] at HR
     have HE : Hid (Owns w (bl (whole ps)) v wr) := zh ⟨whole ps, rfl, HR.out.1, HR.out.2⟩
     go_wp2
     go_ret
     exact ⟨⟨_, rfl, HE.out⟩, HR.out.2⟩
theorem concat_any (g : Nat) (ps : List Piece) (w : World) (hp : Pieces w g ps) (hm : ps.length ≤ 100) (hl : (whole ps).length ≤ 900) :
  Calls Tryz.prog 146 #[.slice (some ⟨g, 0, none⟩) ps.length ps.length] w fun e w' => Lst w.heap.size (bl (whole ps)) e w' ∧ Below w.heap.size w w' :=
 (concat_own g ps w hp hm hl).mono fun _ _ ⟨⟨_, h1, h2⟩, h3⟩ => ⟨by rw [h1]; exact owns_lst h2, h3⟩
theorem concat_at (g m : Nat) (ps : List Piece) (w : World) (hp : Pieces w g ps) (hm0 : m = ps.length) (hm : ps.length ≤ 100) (hl : (whole ps).length ≤ 900) :
  Calls Tryz.prog 146 #[.slice (some ⟨g, 0, none⟩) m m] w fun e w' => Lst w.heap.size (bl (whole ps)) e w' ∧ Below w.heap.size w w' := by
 subst hm0; exact concat_any g ps w hp hm hl
end Go.Proofs.YtbdealddjonobaaGreat.Rig

namespace Go.Proofs.YtbdealddjonobaaGreat.Rig
open Go.RowKit Wire

set_option linter.unusedSimpArgs false
set_option linter.unusedVariables false
theorem cut_hi (a : Option Addr) (n c P : Nat) (hP : P ≤ n) (hc : n ≤ c) (W : World) : (Instr.sliceAt 44 (.slice a n c) none (some (.int .i64 (P : Int))) none).run Tryz.prog W = .ok (.slice a P c) W := by
 have he : Tryz.prog.elem 44 = 9 := by kernel_rfl
 have hu : Tryz.prog.underlying 44 = some (.slice (Tryz.prog.elem 44)) := by rw [he]; exact Tryz.underlying44
 have hz : (sizeOf 9).run Tryz.prog W = .ok 1 W := by rw [Tryz.sizeOf9]
 rw [run_sliceAt_slice (h := hu), run_slice_h (ht := hu) (h0 := by omega) (h2 := by omega), he, hz]
 simp only [Result.andThen_ok, sliced, Int.toNat_natCast, Nat.sub_zero]
 cases a with
 | none => simp
 | some ad =>
  obtain ⟨b, o, x⟩ := ad
  by_cases h : c = 0
  · simp [h]
  · simp [h, Addr.add]
theorem cut_lo (a : Option Addr) (n c P : Nat) (hP : P ≤ n) (hc : n ≤ c) : ∃ A : Option Addr, (∀ W : World, (Instr.sliceAt 44 (.slice a n c) (some (.int .i64 (P : Int))) none none).run Tryz.prog W = .ok (.slice A (n - P) (c - P)) W) ∧ (c = P ∧ A = a ∨ c ≠ P ∧ A = a.map (·.add P)) := by
 have he : Tryz.prog.elem 44 = 9 := by kernel_rfl
 have hu : Tryz.prog.underlying 44 = some (.slice (Tryz.prog.elem 44)) := by rw [he]; exact Tryz.underlying44
 refine ⟨if c = P then a else a.map (·.add (P * 1)), fun W => ?_, ?_⟩
 ·
  have hz : (sizeOf 9).run Tryz.prog W = .ok 1 W := by rw [Tryz.sizeOf9]
  rw [run_sliceAt_slice (h := hu), run_slice_l (ht := hu) (h0 := by omega) (h1 := by omega), he, hz]
  simp only [Result.andThen_ok, sliced, Int.toNat_natCast]
 ·
  by_cases h : c = P
  · exact .inl ⟨h, by rw [if_pos h]⟩
  · exact .inr ⟨h, by rw [if_neg h, Nat.mul_one]⟩
theorem sreads_take {w : World} {a : Option Addr} {ys : List ByteArray} (h : SReads w a ys) (k : Nat) : SReads w a (ys.take k) := fun j hj => by
 rw [List.length_take] at hj; obtain ⟨b, o, e, hb, hc⟩ := h j (by omega)
 refine ⟨b, o, e, hb, ?_⟩
 rw [hc]
 simp [List.getD, List.getElem?_take, show j < k by omega]
theorem sreads_drop {w : World} {a A : Option Addr} {ys : List ByteArray} {c P : Nat} (h : SReads w a ys) (hP : ys.length ≤ c) (hA : c = P ∧ A = a ∨ c ≠ P ∧ A = a.map (·.add P)) : SReads w A (ys.drop P) := fun j hj => by
 rw [List.length_drop] at hj; obtain ⟨b, o, e, hb, hc⟩ := h (P + j) (by omega)
 rcases hA with ⟨h1, _⟩ | ⟨h1, rfl⟩
 · omega
 ·
  refine ⟨b, o + P, ?_, hb, ?_⟩
  · rw [e, Option.map_some, add_none]
  ·
   rw [show o + P + j = o + (P + j) by omega, hc]
   simp [List.getD, List.getElem?_drop]
theorem drop_nil {a A : Option Addr} {c P : Nat} (hn : a = none → c = 0) (hA : c = P ∧ A = a ∨ c ≠ P ∧ A = a.map (·.add P)) : A = none → c - P = 0 := fun h => by
  rcases hA with ⟨h1, rfl⟩ | ⟨h1, rfl⟩
  · omega
  · have := hn (by cases a with
      | none => rfl
      | some x => cases h)
    omega
theorem bl_app (xs ys : List ByteArray) : bl (xs ++ ys) = bl xs ++ bl ys := by simp [bl]
theorem three_pieces (w : World) (g : Nat) (t : TypeId) {A1 A2 A3 : Option Addr} {c1 c2 c3 : Nat} {m1 m2 m3 : Nat} {x1 x2 x3 : List ByteArray} (hg : g = w.heap.size)
  (e1 : m1 = x1.length) (e2 : m2 = x2.length) (e3 : m3 = x3.length) (h1 : SReads w A1 x1) (h2 : SReads w A2 x2) (h3 : SReads w A3 x3) (n1 : A1 = none → c1 = 0) (n2 : A2 = none → c2 = 0) (n3 : A3 = none → c3 = 0) :
  Pieces (w.alloc (.cells #[.slice A1 m1 c1, .slice A2 m2 c2, .slice A3 m3 c3] t)) g [(A1, c1, x1), (A2, c2, x2), (A3, c3, x3)] := by
 subst hg e1 e2 e3
 refine ⟨by simp, fun j A c ys hj => ?_⟩
 have hb := (Below.refl w.heap.size w).alloc zl (.cells #[.slice A1 x1.length c1, .slice A2 x2.length c2, .slice A3 x3.length c3] t)
 have hc : ∀ j, (w.alloc (.cells #[.slice A1 x1.length c1, .slice A2 x2.length c2, .slice A3 x3.length c3] t)).cell? ⟨w.heap.size, j, none⟩ = (#[.slice A1 x1.length c1, .slice A2 x2.length c2, .slice A3 x3.length c3] : Array Value)[j]? := fun j => cell_of_row _ _ _ _ _ (0, 0) (heap_alloc_new w _)
 match j, hj with
 | 0, hj => simp at hj; obtain ⟨rfl, rfl, rfl⟩ := hj; exact ⟨hc 0, h1.below hb zl, n1⟩
 | 1, hj => simp at hj; obtain ⟨rfl, rfl, rfl⟩ := hj; exact ⟨hc 1, h2.below hb zl, n2⟩
 | 2, hj => simp at hj; obtain ⟨rfl, rfl, rfl⟩ := hj; exact ⟨hc 2, h3.below hb zl, n3⟩
 | k + 3, hj => simp at hj
theorem two_pieces (w : World) (g : Nat) (t : TypeId) {A1 A2 : Option Addr} {c1 c2 : Nat} {m1 m2 : Nat} {x1 x2 : List ByteArray} (hg : g = w.heap.size)
  (e1 : m1 = x1.length) (e2 : m2 = x2.length) (h1 : SReads w A1 x1) (h2 : SReads w A2 x2) (n1 : A1 = none → c1 = 0) (n2 : A2 = none → c2 = 0) :
  Pieces (w.alloc (.cells #[.slice A1 m1 c1, .slice A2 m2 c2] t)) g [(A1, c1, x1), (A2, c2, x2)] := by
 subst hg e1 e2
 refine ⟨by simp, fun j A c ys hj => ?_⟩
 have hb := (Below.refl w.heap.size w).alloc zl (.cells #[.slice A1 x1.length c1, .slice A2 x2.length c2] t)
 have hc : ∀ j, (w.alloc (.cells #[.slice A1 x1.length c1, .slice A2 x2.length c2] t)).cell? ⟨w.heap.size, j, none⟩ = (#[.slice A1 x1.length c1, .slice A2 x2.length c2] : Array Value)[j]? := fun j => cell_of_row _ _ _ _ _ (0, 0) (heap_alloc_new w _)
 match j, hj with
 | 0, hj => simp at hj; obtain ⟨rfl, rfl, rfl⟩ := hj; exact ⟨hc 0, h1.below hb zl, n1⟩
 | 1, hj => simp at hj; obtain ⟨rfl, rfl, rfl⟩ := hj; exact ⟨hc 1, h2.below hb zl, n2⟩
 | k + 2, hj => simp at hj
theorem one_piece (w : World) (g : Nat) (t : TypeId) {A1 : Option Addr} {c1 : Nat} {m1 : Nat} {x1 : List ByteArray} (hg : g = w.heap.size)
  (e1 : m1 = x1.length) (h1 : SReads w A1 x1) (n1 : A1 = none → c1 = 0) :
  Pieces (w.alloc (.cells #[.slice A1 m1 c1] t)) g [(A1, c1, x1)] := by
 subst hg e1
 refine ⟨by simp, fun j A c ys hj => ?_⟩
 have hb := (Below.refl w.heap.size w).alloc zl (.cells #[.slice A1 x1.length c1] t)
 have hc : ∀ j, (w.alloc (.cells #[.slice A1 x1.length c1] t)).cell? ⟨w.heap.size, j, none⟩ = (#[.slice A1 x1.length c1] : Array Value)[j]? := fun j => cell_of_row _ _ _ _ _ (0, 0) (heap_alloc_new w _)
 match j, hj with
 | 0, hj => simp at hj; obtain ⟨rfl, rfl, rfl⟩ := hj; exact ⟨hc 0, h1.below hb zl, n1⟩
 | k + 1, hj => simp at hj
theorem lit1_reads (w : World) (u : ByteArray) (g : Nat) (hg : g = w.heap.size) : SReads (w.alloc (.cells #[.string u] 9)) (some ⟨g, 0, none⟩) [u] := by
 subst hg
 intro j hj
 obtain rfl : j = 0 := by simpa using hj
 exact ⟨_, 0, rfl, by simp, cell_of_row _ _ _ _ _ (0, 0) (heap_alloc_new w _)⟩
theorem lst_mono {B B' : Nat} {x : List Tm} {e : Ending} {w : World} (h : Lst B x e w) (hB : B' ≤ B) : Lst B' x e w := by
 obtain ⟨A, c, ys, h1, h2, h3, h4, h5⟩ := h
 exact ⟨A, c, ys, h1, h2, h3, fun b off e => Nat.le_trans hB (h4 b off e), h5⟩
theorem copy_any (a : Option Addr) (n c : Nat) (ys : List ByteArray) (w : World) (g : Nat) (hg : g = w.heap.size) (hr : SReads w a ys) (hl : ys.length ≤ 40) (hnil : a = none → c = 0) (hn : n = ys.length) :
  Calls Tryz.prog 146 #[.slice (some ⟨g, 0, none⟩) 1 1] (w.alloc (.cells #[.slice a n c] 44)) fun e w' => Lst w.heap.size (bl ys) e w' ∧ Below w.heap.size w w' := by
 have hp := one_piece w g 44 hg hn hr hnil
 have hb := (Below.refl w.heap.size w).alloc zl (.cells #[.slice a n c] 44)
 have he : whole [(a, c, ys)] = ys := by simp [whole]
 have h := concat_at g 1 _ _ hp rfl (by simp) (by rw [he]; omega)
 rw [he] at h
 exact h.mono fun e w' h2 => ⟨lst_mono h2.1 hb.size, hb.trans (h2.2.mono hb.size)⟩
set_option maxHeartbeats 4000000 in
set_option maxRecDepth 1000000 in
theorem with_any (a : Option Addr) (c : Nat) (ys : List ByteArray) (u : ByteArray) (w : World) (hr : SReads w a ys) (hn : ys.length ≤ 40) (hc : ys.length ≤ c ∧ (a = none → c = 0)) (hu : u.data.toList ∉ bl ys) :
  Calls Tryz.prog 147 #[.slice a ys.length c, .string u] w fun e w' => Lst w.heap.size (ins u.data.toList (bl ys)) e w' ∧ Below w.heap.size w w' := by
 have HI := zh (plc_ins u.data.toList hu)
 have hpl := plc_le u.data.toList (bl ys)
 rw [bl_len] at hpl; obtain ⟨P, hP⟩ : ∃ P, (plc u.data.toList (bl ys)).1 = P := ⟨_, rfl⟩; rw [hP] at hpl; have HP := zh hP; have HR := zh hr
 have hc1 := hc.1
 have HC := zh hc.2; clear hr hP hc hu
 have hmf : ∀ (fn : Fn) (first cap : Array Value) (w : World), (Instr.makeFunc fn first cap).run Tryz.prog w = .ok (.func fn first cap) w := fun _ _ _ _ => rfl
 go_enter Tryz.func147, Tryz.ntmps147
 go_wp2_with (go_at_call 183; refine (place_any _ _ _ _ _ HR.out (by omega)).mono ?_; rw [HP.out]; rintro e w1 ⟨rfl, hb⟩; have HB := zh hb; clear hb; dsimp only)
 have HT := zh (sreads_take HR.out P); obtain ⟨A3, hcl, ha3⟩ := cut_lo a ys.length c P hpl hc1; have HD := zh (sreads_drop HR.out hc1 ha3); have HN3 := zh (drop_nil HC.out ha3)
 have hch := cut_hi a ys.length c P hpl hc1
 have i0 : (0 : Int) ≤ (P : Int) := by omega
 have i1 : (P : Int) ≤ (ys.length : Int) := by omega
 have i2 : (P : Int) ≤ (c : Int) := by omega
 clear ha3
 have hb0 : Below w.heap.size w (w1.alloc (.cells #[.string u] 9)) := HB.out.alloc HB.out.size _
 have HB0 := zh hb0
 have hb3 : Below w.heap.size w ((w1.alloc (.cells #[.string u] 9)).alloc (.cells #[.slice a P c, .slice (some ⟨w1.heap.size, 0, none⟩) 1 1, .slice A3 (ys.length - P) (c - P)] 44)).drew := Below.drewN' (hb0.alloc hb0.size _) 1
 have hpc : Pieces ((w1.alloc (.cells #[.string u] 9)).alloc (.cells #[.slice a P c, .slice (some ⟨w1.heap.size, 0, none⟩) 1 1, .slice A3 (ys.length - P) (c - P)] 44)).drew (w1.heap.size + 1) [(a, c, ys.take P), (some ⟨w1.heap.size, 0, none⟩, 1, [u]), (A3, c - P, ys.drop P)] :=
  (three_pieces _ _ _ (by simp) (by rw [List.length_take]; omega) rfl (by rw [List.length_drop]) (HT.out.below HB0.out zl) (lit1_reads _ _ _ rfl) (HD.out.below HB0.out zl) HC.out (fun h => by cases h) HN3.out).below (bdrew _ 1) zl
 have HB3 := zh hb3; have HCON := zh (concat_at _ 3 _ _ hpc rfl (by simp) (by simp [whole]; omega)); clear hb0 hb3 hpc
 go_region_held3 (fun _ => True) (trivial) (first | (go_at_call 146; with_reducible refine HCON.out.mono ?_; (intro e w5 hh; obtain ⟨hh1, hb5⟩ := hh; unfold Lst at hh1; obtain ⟨A5, c5, y5, hy5, hc5, hr5, hf5, he5⟩ := hh1; subst he5); have HY5 := zh hy5; have HC5 := zh hc5; have HR5 := zh hr5; have HF5 := zh hf5; have HB5 := zh hb5; clear hy5 hc5 hr5 hf5 hb5; dsimp only))
 have hfin : Lst w.heap.size (ins u.data.toList (bl ys)) (.returned (.slice A5 y5.length c5)) w5 ∧ Below w.heap.size w w5 := by
  refine ⟨⟨A5, c5, y5, ?_, HC5.out, HR5.out, fun b off h => ?_, rfl⟩, HB3.out.trans (HB5.out.mono HB3.out.size)⟩
  ·
   rw [HY5.out]
   have := HI.out
   rw [HP.out] at this; rw [← this]
   simp [whole, bl, List.map_take, List.map_drop]
  · exact Nat.le_trans HB3.out.size (HF5.out b off h)
 have HFIN := zh hfin; clear hfin
 go_wp2
 go_ret
 exact HFIN.out
set_option maxHeartbeats 4000000 in
set_option maxRecDepth 1000000 in
theorem without_any (a : Option Addr) (c : Nat) (ys : List ByteArray) (u : ByteArray) (w : World) (hr : SReads w a ys) (hn : ys.length ≤ 40) (hc : ys.length ≤ c ∧ (a = none → c = 0)) (hp : (bl ys).Pairwise (fun a b => lt a b = true)) :
  Calls Tryz.prog 148 #[.slice a ys.length c, .string u] w fun e w' => Lst w.heap.size (del u.data.toList (bl ys)) e w' ∧ Below w.heap.size w w' := by
 have hpl := plc_le u.data.toList (bl ys)
 rw [bl_len] at hpl
 have hmem := plc_mem u.data.toList hp
 obtain ⟨P, hP⟩ : ∃ P, (plc u.data.toList (bl ys)).1 = P := ⟨_, rfl⟩; rw [hP] at hpl; have HP := zh hP; have HR := zh hr
 have hc1 := hc.1
 have HC := zh hc.2; clear hr hP hc
 have hmf : ∀ (fn : Fn) (first cap : Array Value) (w : World), (Instr.makeFunc fn first cap).run Tryz.prog w = .ok (.func fn first cap) w := fun _ _ _ _ => rfl
 by_cases hu : u.data.toList ∈ bl ys
 ·
  have HD0 := zh (plc_del u.data.toList hp hu); rw [decide_eq_true hu] at hmem; have HM := zh hmem
  have hlt := HD0.out.1
  rw [HP.out, bl_len] at hlt; clear hp hu hmem; have HT := zh (sreads_take HR.out P); obtain ⟨A3, hcl, ha3⟩ := cut_lo a ys.length c (P + 1) hlt hc1; have HD := zh (sreads_drop HR.out hc1 ha3); have HN3 := zh (drop_nil HC.out ha3)
  have hch := cut_hi a ys.length c P hpl hc1
  have hwr : IntKind.i64.wrap ((P : Int) + 1) = (P : Int) + 1 := by rw [IntKind.wrap_i64]; omega
  rw [show ((P + 1 : Nat) : Int) = (P : Int) + 1 by omega] at hcl; clear ha3
  go_enter Tryz.func148, Tryz.ntmps148
  go_wp2_with (go_at_call 183; refine (place_any _ _ _ _ _ HR.out (by omega)).mono ?_; rw [HP.out, HM.out]; rintro e w1 ⟨rfl, hb⟩; have HB := zh hb; clear hb; dsimp only)
  have hb3 : Below w.heap.size w (w1.alloc (.cells #[.slice a P c, .slice A3 (ys.length - (P + 1)) (c - (P + 1))] 44)).drew := Below.drewN' (HB.out.alloc HB.out.size _) 1
  have hpc : Pieces (w1.alloc (.cells #[.slice a P c, .slice A3 (ys.length - (P + 1)) (c - (P + 1))] 44)).drew w1.heap.size [(a, c, ys.take P), (A3, c - (P + 1), ys.drop (P + 1))] :=
   (two_pieces _ _ _ rfl (by rw [List.length_take]; omega) (by rw [List.length_drop]) (HT.out.below HB.out zl) (HD.out.below HB.out zl) HC.out HN3.out).below (bdrew _ 1) zl
  have HB3 := zh hb3; have HCON := zh (concat_at _ 2 _ _ hpc rfl (by simp) (by simp [whole]; omega)); clear hb3 hpc
  go_region_held3 (fun _ => True) (trivial) (first | (go_at_call 146; with_reducible refine HCON.out.mono ?_; (intro e w5 hh; obtain ⟨hh1, hb5⟩ := hh; unfold Lst at hh1; obtain ⟨A5, c5, y5, hy5, hc5, hr5, hf5, he5⟩ := hh1; subst he5); have HY5 := zh hy5; have HC5 := zh hc5; have HR5 := zh hr5; have HF5 := zh hf5; have HB5 := zh hb5; clear hy5 hc5 hr5 hf5 hb5; dsimp only))
  have hfin : Lst w.heap.size (del u.data.toList (bl ys)) (.returned (.slice A5 y5.length c5)) w5 ∧ Below w.heap.size w w5 := by
   refine ⟨⟨A5, c5, y5, ?_, HC5.out, HR5.out, fun b off h => ?_, rfl⟩, HB3.out.trans (HB5.out.mono HB3.out.size)⟩
   ·
    rw [HY5.out]
    have := HD0.out.2
    rw [HP.out] at this; rw [← this]
    simp [whole, bl, List.map_take, List.map_drop]
   · exact Nat.le_trans HB3.out.size (HF5.out b off h)
  have HFIN := zh hfin; clear hfin
  go_wp2
  go_ret
  exact HFIN.out
 ·
  have HD0 := zh (del_not hu); rw [decide_eq_false hu] at hmem; have HM := zh hmem; clear hp hu hmem
  go_enter Tryz.func148, Tryz.ntmps148
  go_wp2_with (go_at_call 183; refine (place_any _ _ _ _ _ HR.out (by omega)).mono ?_; rw [HP.out, HM.out]; rintro e w1 ⟨rfl, hb⟩; have HB := zh hb; clear hb; dsimp only)
  with_reducible refine (copy_any a ys.length c ys _ _ rfl (HR.out.below HB.out zl) hn HC.out rfl).mono ?_
  intro e w5 hh
  obtain ⟨hh1, hb5⟩ := hh; have HH1 := zh hh1; have HB5 := zh hb5
  unfold Lst at hh1
  obtain ⟨A5, c5, y5, hy5, hc5, hr5, hf5, he5⟩ := hh1
  subst he5
  clear hy5 hc5 hr5 hf5 hb5
  have hfin : Lst w.heap.size (del u.data.toList (bl ys)) (.returned (.slice A5 y5.length c5)) w5 ∧ Below w.heap.size w w5 := by
   have h1 := HH1.out
   rw [HD0.out]
   exact ⟨lst_mono h1 HB.out.size, HB.out.trans (HB5.out.mono HB.out.size)⟩
  have HFIN := zh hfin; clear hfin; dsimp only
  go_wp2
  go_ret
  exact HFIN.out
end Go.Proofs.YtbdealddjonobaaGreat.Rig

namespace Go.Proofs.YtbdealddjonobaaGreat.Rig
open Go.RowKit Wire

set_option linter.unusedSimpArgs false
set_option linter.unusedVariables false
theorem nm_ne {x : Tm} (h : nm x = true) : x ≠ [] := fun e => by rw [e] at h; exact absurd h (by decide)
theorem lsd_iff {o : Tm} {l : List Tm} : Lsd o l ↔ Lsd [] l ∧ o ∉ l := by
 constructor
 ·
  intro h
  exact ⟨⟨fun x hx => ⟨(h.1 x hx).1, nm_ne (h.1 x hx).1⟩, h.2⟩, fun hm => (h.1 o hm).2 rfl⟩
 ·
  rintro ⟨h1, h2⟩
  exact ⟨fun x hx => ⟨(h1.1 x hx).1, fun e => h2 (by rw [← e]; exact hx)⟩, h1.2⟩
set_option maxHeartbeats 8000000 in
set_option maxRecDepth 1000000 in
theorem rising_any (a : Option Addr) (c : Nat) (ys : List ByteArray) (w : World) (hr : SReads w a ys) (hn : ys.length ≤ 1000000) :
    Calls Tryz.prog 161 #[.slice a ys.length c] w fun e w' => e = .returned (.bool (decide (Lsd [] (bl ys)))) ∧ Below w.heap.size w w' := by
  have HR := zh hr; obtain ⟨bb, hb⟩ : ∃ b, decide (Lsd [] (bl ys)) = b := ⟨_, rfl⟩; have HB := zh hb; rw [hb]; clear hr hb
  go_enter Tryz.func161, Tryz.ntmps161
  go_wp2_with fail
  go_loopw [7] (fun i wr => ∃ k : Nat, k ≤ ys.length ∧ i = .int .i64 (k : Int) ∧ Hid (Lsd [] ((bl ys).take k)) ∧ Hid (Below w.heap.size w wr)) (fun i _ => ys.length - (intOf i).toNat)
  case atStart => exact ⟨0, Nat.zero_le _, rfl, zh (lsd_nil _), zh (Below.refl _ _)⟩
  case round =>
    obtain ⟨k, hk, rfl, HL, HBW⟩ := hrel
    by_cases hlt : k < ys.length
    · obtain ⟨b, off, rfl, hbl, hcl0⟩ := HR.out k hlt
      obtain ⟨y, hy⟩ : ∃ y, ys.getD k ByteArray.empty = y := ⟨_, rfl⟩
      have hst := lsd_step (ys := ys) (k := k) hlt HL.out
      rw [hy] at hcl0 hst; rw [← HBW.out.cell (p := ⟨b, off + k, none⟩) hbl] at hcl0; obtain ⟨nb, hnm⟩ : ∃ z, nm y.data.toList = z := ⟨_, rfl⟩; have HNM := zh hnm; have HST := zh hst; have HY := zh hy; have HBL := zh hbl; clear hst hnm hy hbl
      cases nb with
      | false =>
        go_wp2_with (go_at_call 85; refine (right_any _ _).mono ?_; rintro e w2 ⟨rfl, hb2⟩; rw [show Txt.right y.data.toList = false from HNM.out]; have HB2 := zh hb2; clear hb2)
        have HT : Hid (bb = false) := by
          show bb = false
          rw [← HB.out]
          refine decide_eq_false fun h => ?_
          have h2 := (HST.out.1 (lsd_part (k + 1) h)).1
          rw [HNM.out] at h2; cases h2
        go_ret
        exact ⟨by rw [HT.out]; rfl, HBW.out.trans (HB2.out.mono HBW.out.size)⟩
      | true =>
        by_cases h0 : k = 0
        · have j0 : ¬ ((k : Int) > 0) := by omega
          have j1 : ¬ ((0 : Int) < (k : Int)) := by omega
          have H0 : Hid (¬ 0 < k) := zh (by omega)
          clear h0
          go_wp2_with (go_at_call 85; refine (right_any _ _).mono ?_; rintro e w2 ⟨rfl, hb2⟩; rw [show Txt.right y.data.toList = true from HNM.out]; have HB2 := zh hb2; clear hb2)
          have HL2 : Hid (Lsd [] ((bl ys).take (k + 1))) := zh (HST.out.2 ⟨HNM.out, nm_ne HNM.out, fun h => absurd h H0.out⟩)
          go_roundw
          case rel => exact ⟨k + 1, by omega, by go_num, HL2, zh (HBW.out.trans (HB2.out.mono HBW.out.size))⟩
          case measure => simp [intOf]; omega
        · have hclx0 : w.cell? ⟨b, off + (k - 1), none⟩ = some (.string (ys.getD (k - 1) ByteArray.empty)) := by
            obtain ⟨b2, off2, e, _, hc⟩ := HR.out (k - 1) (by omega)
            injection e with e
            injection e with e1 e2 _
            rw [e1, e2]; exact hc
          obtain ⟨x, hx⟩ : ∃ x, ys.getD (k - 1) ByteArray.empty = x := ⟨_, rfl⟩; rw [hx] at hclx0 HST; have HCX := zh hclx0; clear hclx0 hx; obtain ⟨lb, hlb⟩ : ∃ z, lt x.data.toList y.data.toList = z := ⟨_, rfl⟩; have HLT := zh hlb
          have i1 : (1 : Int) ≤ (k : Int) := by omega
          have i2 : IntKind.i64.wrap ((k : Int) - 1) = (k : Int) - 1 := by rw [IntKind.wrap_i64]; omega
          have i3 : ((k : Int) - 1).toNat = k - 1 := by omega
          have i4 : (0 : Int) ≤ (k : Int) - 1 := by omega
          have i5 : (k : Int) - 1 < (ys.length : Int) := by omega
          clear hlb
          cases lb with
          | true =>
            go_wp2_with (first
              | (go_at_call 85; refine (right_any _ _).mono ?_; rintro e w2 ⟨rfl, hb2⟩; rw [show Txt.right y.data.toList = true from HNM.out]; have hcx := ((HBW.out.trans (hb2.mono HBW.out.size)).cell (p := ⟨b, off + (k - 1), none⟩) HBL.out).trans HCX.out; have HB2 := zh hb2; clear hb2)
              | (go_at_call 112; refine (less_any _ _ _).mono ?_; rintro e w3 ⟨rfl, h3⟩; obtain rfl : w2 = w3 := h3; rw [show Op.bytesLess x.data.toList y.data.toList = true from HLT.out]))
            have HL2 : Hid (Lsd [] ((bl ys).take (k + 1))) := zh (HST.out.2 ⟨HNM.out, nm_ne HNM.out, fun _ => HLT.out⟩)
            go_roundw
            case rel => exact ⟨k + 1, by omega, by go_num, HL2, zh (HBW.out.trans (HB2.out.mono HBW.out.size))⟩
            case measure => simp [intOf]; omega
          | false =>
            go_wp2_with (first
              | (go_at_call 85; refine (right_any _ _).mono ?_; rintro e w2 ⟨rfl, hb2⟩; rw [show Txt.right y.data.toList = true from HNM.out]; have hcx := ((HBW.out.trans (hb2.mono HBW.out.size)).cell (p := ⟨b, off + (k - 1), none⟩) HBL.out).trans HCX.out; have HB2 := zh hb2; clear hb2)
              | (go_at_call 112; refine (less_any _ _ _).mono ?_; rintro e w3 ⟨rfl, h3⟩; obtain rfl : w2 = w3 := h3; rw [show Op.bytesLess x.data.toList y.data.toList = false from HLT.out]))
            have HT : Hid (bb = false) := by
              show bb = false
              rw [← HB.out]
              refine decide_eq_false fun h => ?_
              have h2 := (HST.out.1 (lsd_part (k + 1) h)).2.2 (by omega)
              rw [HLT.out] at h2; cases h2
            go_ret
            exact ⟨by rw [HT.out]; rfl, HBW.out.trans (HB2.out.mono HBW.out.size)⟩
    · have HT : Hid (bb = true) := by
        show bb = true
        rw [← HB.out]
        refine decide_eq_true ?_
        have := HL.out
        rw [show k = ys.length by omega, bl_take_all] at this
        exact this
      go_wp2
      go_ret
      exact ⟨by rw [HT.out]; rfl, HBW.out⟩
end Go.Proofs.YtbdealddjonobaaGreat.Rig

namespace Go.Proofs.YtbdealddjonobaaGreat.Rig
open Go.RowKit Wire

set_option linter.unusedSimpArgs false
set_option linter.unusedVariables false
set_option maxHeartbeats 4000000 in
set_option maxRecDepth 1000000 in
theorem apart_any (o f : ByteArray) (ep : Int) (A : Option Addr) (c : Nat) (rs : List ByteArray) (B : Option Addr) (d : Nat) (ws : List ByteArray) (w : World) (hA : SReads w A rs) (hB : SReads w B ws) (hn1 : rs.length ≤ 1000) (hn2 : ws.length ≤ 1000)
  (p1 : (bl rs).Pairwise (fun a b => lt a b = true)) (p2 : (bl ws).Pairwise (fun a b => lt a b = true)) :
  Calls Tryz.prog 162 #[RV o f ep A rs.length c B ws.length d] w fun e w' => e = .returned (.bool (decide (o.data.toList ∉ bl rs ∧ o.data.toList ∉ bl ws ∧ ∀ x ∈ bl rs, x ∉ bl ws))) ∧ Below w.heap.size w w' := by
 have HA := zh hA; have HBB := zh hB
 have HM1 := zh fun w h => among_any A c rs o w h (by omega) p1
 have HM2 := zh fun w h => among_any B d ws o w h (by omega) p2
 have HM3 := zh fun (u : ByteArray) w h => among_any B d ws u w h (by omega) p2
 obtain ⟨bb, hbb⟩ : ∃ b, decide (o.data.toList ∉ bl rs ∧ o.data.toList ∉ bl ws ∧ ∀ x ∈ bl rs, x ∉ bl ws) = b := ⟨_, rfl⟩
 have HNO : Hid (¬ (o.data.toList ∉ bl rs ∧ o.data.toList ∉ bl ws ∧ ∀ x ∈ bl rs, x ∉ bl ws) → bb = false) := fun h => by rw [← hbb]; exact decide_eq_false h
 have HYES : Hid ((o.data.toList ∉ bl rs ∧ o.data.toList ∉ bl ws ∧ ∀ x ∈ bl rs, x ∉ bl ws) → bb = true) := fun h => by rw [← hbb]; exact decide_eq_true h
 rw [hbb]; clear hA hB p1 p2 hbb
 unfold RV
 by_cases h1 : o.data.toList ∈ bl rs
 ·
  have hbf : bb = false := HNO.out fun h => h.1 h1
  subst hbf
  rw [decide_eq_true h1] at HM1; clear HNO HYES h1
  go_enter Tryz.func162, Tryz.ntmps162
  go_wp2_with fail
  have HX0 := zh (bx_alloc w o f ep A rs.length c B ws.length d 48); have HB0 := zh (al w (.cells #[.string o, .string f, .int .i64 ep, .slice A rs.length c, .slice B ws.length d] 48))
  generalize w.alloc (.cells #[.string o, .string f, .int .i64 ep, .slice A rs.length c, .slice B ws.length d] 48) = w0 at HX0 HB0 ⊢
  obtain ⟨c0, c1, c2, c3, c4, _⟩ := HX0.out; (with_reducible refine (HM1.out _ (HA.out.below HB0.out zl)).mono ?_); rintro e w1 ⟨rfl, hb1⟩; have HB1 := zh (Bel.call HB0.out hb1); have HX1 := zh (HX0.out.below hb1 HX0.out.2.2.2.2.2); clear hb1 c0 c1 c2 c3 c4; obtain ⟨c0, c1, c2, c3, c4, _⟩ := HX1.out; dsimp only
  go_wp2
  go_ret
  exact ⟨rfl, HB1.out⟩
 ·
  rw [decide_eq_false h1] at HM1
  by_cases h2 : o.data.toList ∈ bl ws
  ·
   have hbf : bb = false := HNO.out fun h => h.2.1 h2
   subst hbf
   rw [decide_eq_true h2] at HM2; clear HNO HYES h1 h2
   go_enter Tryz.func162, Tryz.ntmps162
   go_wp2_with fail
   have HX0 := zh (bx_alloc w o f ep A rs.length c B ws.length d 48); have HB0 := zh (al w (.cells #[.string o, .string f, .int .i64 ep, .slice A rs.length c, .slice B ws.length d] 48))
   generalize w.alloc (.cells #[.string o, .string f, .int .i64 ep, .slice A rs.length c, .slice B ws.length d] 48) = w0 at HX0 HB0 ⊢
   obtain ⟨c0, c1, c2, c3, c4, _⟩ := HX0.out; (with_reducible refine (HM1.out _ (HA.out.below HB0.out zl)).mono ?_); rintro e w1 ⟨rfl, hb1⟩; have HB1 := zh (Bel.call HB0.out hb1); have HX1 := zh (HX0.out.below hb1 HX0.out.2.2.2.2.2); clear hb1 c0 c1 c2 c3 c4; obtain ⟨c0, c1, c2, c3, c4, _⟩ := HX1.out; dsimp only
   go_wp2_with fail
   (with_reducible refine (HM2.out _ (HBB.out.below HB1.out zl)).mono ?_); rintro e w2 ⟨rfl, hb2⟩; have HB2 := zh (Bel.call HB1.out hb2); have HX2 := zh (HX1.out.below hb2 HX1.out.2.2.2.2.2); clear hb2 c0 c1 c2 c3 c4; obtain ⟨c0, c1, c2, c3, c4, _⟩ := HX2.out; dsimp only
   go_wp2
   go_ret
   exact ⟨rfl, HB2.out⟩
  ·
   rw [decide_eq_false h2] at HM2; have H1 := zh h1; have H2 := zh h2; clear h1 h2
   go_enter Tryz.func162, Tryz.ntmps162
   go_wp2_with fail
   have HX0 := zh (bx_alloc w o f ep A rs.length c B ws.length d 48); have HB0 := zh (al w (.cells #[.string o, .string f, .int .i64 ep, .slice A rs.length c, .slice B ws.length d] 48))
   generalize w.alloc (.cells #[.string o, .string f, .int .i64 ep, .slice A rs.length c, .slice B ws.length d] 48) = w0 at HX0 HB0 ⊢
   obtain ⟨c0, c1, c2, c3, c4, _⟩ := HX0.out; (with_reducible refine (HM1.out _ (HA.out.below HB0.out zl)).mono ?_); rintro e w1 ⟨rfl, hb1⟩; have HB1 := zh (Bel.call HB0.out hb1); have HX1 := zh (HX0.out.below hb1 HX0.out.2.2.2.2.2); clear hb1 c0 c1 c2 c3 c4; obtain ⟨c0, c1, c2, c3, c4, _⟩ := HX1.out; dsimp only
   go_wp2_with fail
   (with_reducible refine (HM2.out _ (HBB.out.below HB1.out zl)).mono ?_); rintro e w2 ⟨rfl, hb2⟩; have HB2 := zh (Bel.call HB1.out hb2); have HX2 := zh (HX1.out.below hb2 HX1.out.2.2.2.2.2); clear hb2 c0 c1 c2 c3 c4; obtain ⟨c0, c1, c2, c3, c4, _⟩ := HX2.out; dsimp only
   go_wp2_with fail
   go_loopw [20] (fun i wr => ∃ k : Nat, k ≤ rs.length ∧ i = .int .i64 (k : Int) ∧ Hid (∀ x ∈ (bl rs).take k, x ∉ bl ws) ∧ Hid (Below w.heap.size w wr) ∧ Hid (Bx w.heap.size wr o f ep A rs.length c B ws.length d)) (fun i _ => rs.length - (intOf i).toNat)
   case atStart => exact ⟨0, Nat.zero_le _, rfl, zh (by simp), HB2, HX2⟩
   case round =>
    obtain ⟨k, hk, rfl, HN, HBW, HXW⟩ := hrel; clear c0 c1 c2 c3 c4; obtain ⟨c0, c1, c2, c3, c4, _⟩ := HXW.out
    by_cases hlt : k < rs.length
    ·
     obtain ⟨b, off, rfl, hbl, hcl0⟩ := HA.out k hlt; obtain ⟨y, hy⟩ : ∃ y, rs.getD k ByteArray.empty = y := ⟨_, rfl⟩; rw [hy, ← HBW.out.cell (p := ⟨b, off + k, none⟩) hbl] at hcl0
     have hg := bl_get hlt
     rw [hy] at hg; have HG := zh hg; clear hg hy hbl
     by_cases hm : y.data.toList ∈ bl ws
     ·
      have hbf : bb = false := HNO.out fun h => h.2.2 y.data.toList (List.mem_of_mem_take (by rw [HG.out]; simp)) hm
      subst hbf
      have HM := HM3.out y
      rw [decide_eq_true hm] at HM; have HM := zh HM; clear HNO HYES hm
      go_wp2_with fail
      (with_reducible refine (HM.out _ (HBB.out.below HBW.out zl)).mono ?_); rintro e w4 ⟨rfl, hb4⟩; have HB4 := zh (Bel.call HBW.out hb4); clear hb4 c0 c1 c2 c3 c4; dsimp only
      go_wp2
      go_ret
      exact ⟨rfl, HB4.out⟩
     ·
      have HM := HM3.out y
      rw [decide_eq_false hm] at HM; have HM := zh HM; have HNM := zh hm; clear hm
      go_wp2_with fail
      (with_reducible refine (HM.out _ (HBB.out.below HBW.out zl)).mono ?_); rintro e w4 ⟨rfl, hb4⟩; have HB4 := zh (Bel.call HBW.out hb4); have HX4 := zh (HXW.out.below hb4 HXW.out.2.2.2.2.2); clear hb4 c0 c1 c2 c3 c4; dsimp only
      go_wp2
      go_roundw
      case rel =>
       refine ⟨k + 1, by omega, by go_num, zh ?_, HB4, HX4⟩
       rw [HG.out]
       intro x hx
       rcases List.mem_append.1 hx with hx | hx
       · exact HN.out x hx
       · rw [List.mem_singleton.1 hx]; exact HNM.out
      case measure => simp [intOf]; omega
    ·
     have hbt : bb = true := HYES.out ⟨H1.out, H2.out, by
      have := HN.out
      rw [show k = rs.length by omega, bl_take_all] at this
      exact this⟩
     subst hbt
     go_wp2
     go_ret
     exact ⟨rfl, HBW.out⟩
theorem nright_is (s : ByteArray) (v : Bool) (h : nm s.data.toList = v) (w : World) : Calls Tryz.prog 85 #[.string s] w fun e w' => e = .returned (.bool v) ∧ Below w.heap.size w w' := by
 have h2 := right_any s w
 rw [show Txt.right s.data.toList = v from h] at h2
 exact h2
set_option maxHeartbeats 4000000 in
set_option maxRecDepth 1000000 in
theorem right_code (o f : ByteArray) (ep : Int) (A : Option Addr) (c : Nat) (rs : List ByteArray) (B : Option Addr) (d : Nat) (ws : List ByteArray) (w : World) (hA : SReads w A rs) (hB : SReads w B ws) (hf : Few ⟨o.data.toList, f.data.toList, ep, bl rs, bl ws⟩) :
  Calls Tryz.prog 113 #[RV o f ep A rs.length c B ws.length d] w fun e w' => e = .returned (.bool (decide (RR ⟨o.data.toList, f.data.toList, ep, bl rs, bl ws⟩))) ∧ Below w.heap.size w w' := by
 obtain ⟨_, _, f3, f4, _, _, f7, f8⟩ := hf
 simp only at f3 f4 f7 f8
 rw [bl_len] at f3 f4; have HA := zh hA; have HBB := zh hB; obtain ⟨bb, hbb⟩ : ∃ b, decide (RR ⟨o.data.toList, f.data.toList, ep, bl rs, bl ws⟩) = b := ⟨_, rfl⟩
 have HNO : Hid (¬ RR ⟨o.data.toList, f.data.toList, ep, bl rs, bl ws⟩ → bb = false) := fun h => by rw [← hbb]; exact decide_eq_false h
 have HBBE := zh hbb; rw [hbb]
 have HR1 := zh fun v h w => nright_is o v h w
 have HR2 := zh fun v h w => nright_is f v h w
 have HL1 := zh fun w h => rising_any A c rs w h (by omega)
 have HL2 := zh fun w h => rising_any B d ws w h (by omega)
 have HAP := zh fun w h1 h2 p1 p2 => apart_any o f ep A c rs B d ws w h1 h2 (by omega) (by omega) p1 p2
 have hlen : (bl rs).length + (bl ws).length = rs.length + ws.length := by rw [bl_len, bl_len]
 clear hA hB hbb
 unfold RV at HAP ⊢
 cases h1 : nm o.data.toList with
 | false =>
  have hbf : bb = false := HNO.out fun h => by rw [h.1] at h1; cases h1
  subst hbf
  clear HNO HBBE HAP
  go_enter Tryz.func113, Tryz.ntmps113
  go_wp2_with fail
  have HX0 := zh (bx_alloc w o f ep A rs.length c B ws.length d 48); have HB0 := zh (al w (.cells #[.string o, .string f, .int .i64 ep, .slice A rs.length c, .slice B ws.length d] 48))
  generalize w.alloc (.cells #[.string o, .string f, .int .i64 ep, .slice A rs.length c, .slice B ws.length d] 48) = w0 at HX0 HB0 ⊢
  obtain ⟨c0, c1, c2, c3, c4, _⟩ := HX0.out; (with_reducible refine (HR1.out false h1 _).mono ?_); rintro e w1 ⟨rfl, hb1⟩; have HB1 := zh (Bel.call HB0.out hb1); have HX1 := zh (HX0.out.below hb1 HX0.out.2.2.2.2.2); clear hb1 c0 c1 c2 c3 c4; obtain ⟨c0, c1, c2, c3, c4, _⟩ := HX1.out; dsimp only
  go_wp2
  go_ret
  exact ⟨rfl, HB1.out⟩
 | true =>
  cases h2 : nm f.data.toList with
  | false =>
   have hbf : bb = false := HNO.out fun h => by rw [h.2.1] at h2; cases h2
   subst hbf
   clear HNO HBBE HAP
   go_enter Tryz.func113, Tryz.ntmps113
   go_wp2_with fail
   have HX0 := zh (bx_alloc w o f ep A rs.length c B ws.length d 48); have HB0 := zh (al w (.cells #[.string o, .string f, .int .i64 ep, .slice A rs.length c, .slice B ws.length d] 48))
   generalize w.alloc (.cells #[.string o, .string f, .int .i64 ep, .slice A rs.length c, .slice B ws.length d] 48) = w0 at HX0 HB0 ⊢
   obtain ⟨c0, c1, c2, c3, c4, _⟩ := HX0.out; (with_reducible refine (HR1.out true h1 _).mono ?_); rintro e w1 ⟨rfl, hb1⟩; have HB1 := zh (Bel.call HB0.out hb1); have HX1 := zh (HX0.out.below hb1 HX0.out.2.2.2.2.2); clear hb1 c0 c1 c2 c3 c4; obtain ⟨c0, c1, c2, c3, c4, _⟩ := HX1.out; dsimp only
   go_wp2_with fail
   (with_reducible refine (HR2.out false h2 _).mono ?_); rintro e w2 ⟨rfl, hb2⟩; have HB2 := zh (Bel.call HB1.out hb2); have HX2 := zh (HX1.out.below hb2 HX1.out.2.2.2.2.2); clear hb2 c0 c1 c2 c3 c4; obtain ⟨c0, c1, c2, c3, c4, _⟩ := HX2.out; dsimp only
   go_wp2
   go_ret
   exact ⟨rfl, HB2.out⟩
  | true =>
   by_cases h3 : ep < 0
   ·
    have hbf : bb = false := HNO.out fun h => by have := h.2.2.1.1; simp only at this; omega
    subst hbf
    clear HNO HBBE HAP
    go_enter Tryz.func113, Tryz.ntmps113
    go_wp2_with fail
    have HX0 := zh (bx_alloc w o f ep A rs.length c B ws.length d 48); have HB0 := zh (al w (.cells #[.string o, .string f, .int .i64 ep, .slice A rs.length c, .slice B ws.length d] 48))
    generalize w.alloc (.cells #[.string o, .string f, .int .i64 ep, .slice A rs.length c, .slice B ws.length d] 48) = w0 at HX0 HB0 ⊢
    obtain ⟨c0, c1, c2, c3, c4, _⟩ := HX0.out; (with_reducible refine (HR1.out true h1 _).mono ?_); rintro e w1 ⟨rfl, hb1⟩; have HB1 := zh (Bel.call HB0.out hb1); have HX1 := zh (HX0.out.below hb1 HX0.out.2.2.2.2.2); clear hb1 c0 c1 c2 c3 c4; obtain ⟨c0, c1, c2, c3, c4, _⟩ := HX1.out; dsimp only
    go_wp2_with fail
    (with_reducible refine (HR2.out true h2 _).mono ?_); rintro e w2 ⟨rfl, hb2⟩; have HB2 := zh (Bel.call HB1.out hb2); have HX2 := zh (HX1.out.below hb2 HX1.out.2.2.2.2.2); clear hb2 c0 c1 c2 c3 c4; obtain ⟨c0, c1, c2, c3, c4, _⟩ := HX2.out; dsimp only
    go_wp2
    go_ret
    exact ⟨rfl, HB2.out⟩
   by_cases h4 : 7 < ep
   ·
    have hbf : bb = false := HNO.out fun h => by have := h.2.2.1.2; simp only at this; omega
    subst hbf
    clear HNO HBBE HAP
    go_enter Tryz.func113, Tryz.ntmps113
    go_wp2_with fail
    have HX0 := zh (bx_alloc w o f ep A rs.length c B ws.length d 48); have HB0 := zh (al w (.cells #[.string o, .string f, .int .i64 ep, .slice A rs.length c, .slice B ws.length d] 48))
    generalize w.alloc (.cells #[.string o, .string f, .int .i64 ep, .slice A rs.length c, .slice B ws.length d] 48) = w0 at HX0 HB0 ⊢
    obtain ⟨c0, c1, c2, c3, c4, _⟩ := HX0.out; (with_reducible refine (HR1.out true h1 _).mono ?_); rintro e w1 ⟨rfl, hb1⟩; have HB1 := zh (Bel.call HB0.out hb1); have HX1 := zh (HX0.out.below hb1 HX0.out.2.2.2.2.2); clear hb1 c0 c1 c2 c3 c4; obtain ⟨c0, c1, c2, c3, c4, _⟩ := HX1.out; dsimp only
    go_wp2_with fail
    (with_reducible refine (HR2.out true h2 _).mono ?_); rintro e w2 ⟨rfl, hb2⟩; have HB2 := zh (Bel.call HB1.out hb2); have HX2 := zh (HX1.out.below hb2 HX1.out.2.2.2.2.2); clear hb2 c0 c1 c2 c3 c4; obtain ⟨c0, c1, c2, c3, c4, _⟩ := HX2.out; dsimp only
    go_wp2
    go_ret
    exact ⟨rfl, HB2.out⟩
   have hw : IntKind.i64.wrap ((rs.length : Int) + (ws.length : Int)) = (rs.length : Int) + (ws.length : Int) := by rw [IntKind.wrap_i64]; omega
   by_cases h5 : 5 < rs.length + ws.length
   ·
    have h5' : (5 : Int) < (rs.length : Int) + (ws.length : Int) := by omega
    have hbf : bb = false := HNO.out fun h => by have := h.2.2.2.1; simp only at this; omega
    subst hbf
    clear HNO HBBE HAP
    go_enter Tryz.func113, Tryz.ntmps113
    go_wp2_with fail
    have HX0 := zh (bx_alloc w o f ep A rs.length c B ws.length d 48); have HB0 := zh (al w (.cells #[.string o, .string f, .int .i64 ep, .slice A rs.length c, .slice B ws.length d] 48))
    generalize w.alloc (.cells #[.string o, .string f, .int .i64 ep, .slice A rs.length c, .slice B ws.length d] 48) = w0 at HX0 HB0 ⊢
    obtain ⟨c0, c1, c2, c3, c4, _⟩ := HX0.out; (with_reducible refine (HR1.out true h1 _).mono ?_); rintro e w1 ⟨rfl, hb1⟩; have HB1 := zh (Bel.call HB0.out hb1); have HX1 := zh (HX0.out.below hb1 HX0.out.2.2.2.2.2); clear hb1 c0 c1 c2 c3 c4; obtain ⟨c0, c1, c2, c3, c4, _⟩ := HX1.out; dsimp only
    go_wp2_with fail
    (with_reducible refine (HR2.out true h2 _).mono ?_); rintro e w2 ⟨rfl, hb2⟩; have HB2 := zh (Bel.call HB1.out hb2); have HX2 := zh (HX1.out.below hb2 HX1.out.2.2.2.2.2); clear hb2 c0 c1 c2 c3 c4; obtain ⟨c0, c1, c2, c3, c4, _⟩ := HX2.out; dsimp only
    go_wp2
    go_ret
    exact ⟨rfl, HB2.out⟩
   have h5' : ¬ ((5 : Int) < (rs.length : Int) + (ws.length : Int)) := by omega
   by_cases h6 : Lsd [] (bl rs)
   case neg =>
    have hbf : bb = false := HNO.out fun h => by exact h6 (lsd_iff.1 h.2.2.2.2.1).1
    subst hbf
    clear HNO HBBE HAP; rw [decide_eq_false h6] at HL1
    go_enter Tryz.func113, Tryz.ntmps113
    go_wp2_with fail
    have HX0 := zh (bx_alloc w o f ep A rs.length c B ws.length d 48); have HB0 := zh (al w (.cells #[.string o, .string f, .int .i64 ep, .slice A rs.length c, .slice B ws.length d] 48))
    generalize w.alloc (.cells #[.string o, .string f, .int .i64 ep, .slice A rs.length c, .slice B ws.length d] 48) = w0 at HX0 HB0 ⊢
    obtain ⟨c0, c1, c2, c3, c4, _⟩ := HX0.out; (with_reducible refine (HR1.out true h1 _).mono ?_); rintro e w1 ⟨rfl, hb1⟩; have HB1 := zh (Bel.call HB0.out hb1); have HX1 := zh (HX0.out.below hb1 HX0.out.2.2.2.2.2); clear hb1 c0 c1 c2 c3 c4; obtain ⟨c0, c1, c2, c3, c4, _⟩ := HX1.out; dsimp only
    go_wp2_with fail
    (with_reducible refine (HR2.out true h2 _).mono ?_); rintro e w2 ⟨rfl, hb2⟩; have HB2 := zh (Bel.call HB1.out hb2); have HX2 := zh (HX1.out.below hb2 HX1.out.2.2.2.2.2); clear hb2 c0 c1 c2 c3 c4; obtain ⟨c0, c1, c2, c3, c4, _⟩ := HX2.out; dsimp only
    go_wp2_with fail
    (with_reducible refine (HL1.out _ (HA.out.below HB2.out zl)).mono ?_); rintro e w3 ⟨rfl, hb3⟩; have HB3 := zh (Bel.call HB2.out hb3); have HX3 := zh (HX2.out.below hb3 HX2.out.2.2.2.2.2); clear hb3 c0 c1 c2 c3 c4; obtain ⟨c0, c1, c2, c3, c4, _⟩ := HX3.out; dsimp only
    go_wp2
    go_ret
    exact ⟨rfl, HB3.out⟩
   by_cases h7 : Lsd [] (bl ws)
   case neg =>
    have hbf : bb = false := HNO.out fun h => by exact h7 (lsd_iff.1 h.2.2.2.2.2.1).1
    subst hbf
    clear HNO HBBE HAP; rw [decide_eq_true h6] at HL1; rw [decide_eq_false h7] at HL2
    go_enter Tryz.func113, Tryz.ntmps113
    go_wp2_with fail
    have HX0 := zh (bx_alloc w o f ep A rs.length c B ws.length d 48); have HB0 := zh (al w (.cells #[.string o, .string f, .int .i64 ep, .slice A rs.length c, .slice B ws.length d] 48))
    generalize w.alloc (.cells #[.string o, .string f, .int .i64 ep, .slice A rs.length c, .slice B ws.length d] 48) = w0 at HX0 HB0 ⊢
    obtain ⟨c0, c1, c2, c3, c4, _⟩ := HX0.out; (with_reducible refine (HR1.out true h1 _).mono ?_); rintro e w1 ⟨rfl, hb1⟩; have HB1 := zh (Bel.call HB0.out hb1); have HX1 := zh (HX0.out.below hb1 HX0.out.2.2.2.2.2); clear hb1 c0 c1 c2 c3 c4; obtain ⟨c0, c1, c2, c3, c4, _⟩ := HX1.out; dsimp only
    go_wp2_with fail
    (with_reducible refine (HR2.out true h2 _).mono ?_); rintro e w2 ⟨rfl, hb2⟩; have HB2 := zh (Bel.call HB1.out hb2); have HX2 := zh (HX1.out.below hb2 HX1.out.2.2.2.2.2); clear hb2 c0 c1 c2 c3 c4; obtain ⟨c0, c1, c2, c3, c4, _⟩ := HX2.out; dsimp only
    go_wp2_with fail
    (with_reducible refine (HL1.out _ (HA.out.below HB2.out zl)).mono ?_); rintro e w3 ⟨rfl, hb3⟩; have HB3 := zh (Bel.call HB2.out hb3); have HX3 := zh (HX2.out.below hb3 HX2.out.2.2.2.2.2); clear hb3 c0 c1 c2 c3 c4; obtain ⟨c0, c1, c2, c3, c4, _⟩ := HX3.out; dsimp only
    go_wp2_with fail
    (with_reducible refine (HL2.out _ (HBB.out.below HB3.out zl)).mono ?_); rintro e w4 ⟨rfl, hb4⟩; have HB4 := zh (Bel.call HB3.out hb4); have HX4 := zh (HX3.out.below hb4 HX3.out.2.2.2.2.2); clear hb4 c0 c1 c2 c3 c4; obtain ⟨c0, c1, c2, c3, c4, _⟩ := HX4.out; dsimp only
    go_wp2
    go_ret
    exact ⟨rfl, HB4.out⟩
   have hfin : bb = decide (o.data.toList ∉ bl rs ∧ o.data.toList ∉ bl ws ∧ ∀ x ∈ bl rs, x ∉ bl ws) := by
    rw [← HBBE.out]
    refine decide_eq_decide.2 ⟨fun h => ⟨(lsd_iff.1 h.2.2.2.2.1).2, (lsd_iff.1 h.2.2.2.2.2.1).2, h.2.2.2.2.2.2⟩, fun h => ?_⟩
    exact ⟨h1, h2, ⟨by simp only; omega, by simp only; omega⟩, by simp only; omega, lsd_iff.2 ⟨h6, h.1⟩, lsd_iff.2 ⟨h7, h.2.1⟩, h.2.2⟩
   have HFIN := zh hfin; have H6 := zh h6.2; have H7 := zh h7.2; rw [decide_eq_true h6] at HL1; rw [decide_eq_true h7] at HL2; clear hfin h6 h7 HNO HBBE
   go_enter Tryz.func113, Tryz.ntmps113
   go_wp2_with fail
   have HX0 := zh (bx_alloc w o f ep A rs.length c B ws.length d 48); have HB0 := zh (al w (.cells #[.string o, .string f, .int .i64 ep, .slice A rs.length c, .slice B ws.length d] 48))
   generalize w.alloc (.cells #[.string o, .string f, .int .i64 ep, .slice A rs.length c, .slice B ws.length d] 48) = w0 at HX0 HB0 ⊢
   obtain ⟨c0, c1, c2, c3, c4, _⟩ := HX0.out; (with_reducible refine (HR1.out true h1 _).mono ?_); rintro e w1 ⟨rfl, hb1⟩; have HB1 := zh (Bel.call HB0.out hb1); have HX1 := zh (HX0.out.below hb1 HX0.out.2.2.2.2.2); clear hb1 c0 c1 c2 c3 c4; obtain ⟨c0, c1, c2, c3, c4, _⟩ := HX1.out; dsimp only
   go_wp2_with fail
   (with_reducible refine (HR2.out true h2 _).mono ?_); rintro e w2 ⟨rfl, hb2⟩; have HB2 := zh (Bel.call HB1.out hb2); have HX2 := zh (HX1.out.below hb2 HX1.out.2.2.2.2.2); clear hb2 c0 c1 c2 c3 c4; obtain ⟨c0, c1, c2, c3, c4, _⟩ := HX2.out; dsimp only
   go_wp2_with fail
   (with_reducible refine (HL1.out _ (HA.out.below HB2.out zl)).mono ?_); rintro e w3 ⟨rfl, hb3⟩; have HB3 := zh (Bel.call HB2.out hb3); have HX3 := zh (HX2.out.below hb3 HX2.out.2.2.2.2.2); clear hb3 c0 c1 c2 c3 c4; obtain ⟨c0, c1, c2, c3, c4, _⟩ := HX3.out; dsimp only
   go_wp2_with fail
   (with_reducible refine (HL2.out _ (HBB.out.below HB3.out zl)).mono ?_); rintro e w4 ⟨rfl, hb4⟩; have HB4 := zh (Bel.call HB3.out hb4); have HX4 := zh (HX3.out.below hb4 HX3.out.2.2.2.2.2); clear hb4 c0 c1 c2 c3 c4; obtain ⟨c0, c1, c2, c3, c4, _⟩ := HX4.out; dsimp only
   go_wp2_with fail
   (with_reducible refine (HAP.out _ (HA.out.below HB4.out zl) (HBB.out.below HB4.out zl) H6.out H7.out).mono ?_); rw [← HFIN.out]; rintro e w5 ⟨rfl, hb5⟩; have HB5 := zh (Bel.call HB4.out hb5); clear hb5 c0 c1 c2 c3 c4; dsimp only
   go_wp2
   go_ret
   exact ⟨rfl, HB5.out⟩
end Go.Proofs.YtbdealddjonobaaGreat.Rig

namespace Go.Proofs.YtbdealddjonobaaGreat.Rig
open Go.RowKit Wire

set_option linter.unusedSimpArgs false
set_option linter.unusedVariables false
set_option maxHeartbeats 2000000 in
set_option maxRecDepth 1000000 in
theorem new_code (o f : ByteArray) (w : World) (ho : o.size ≤ 1000000) (hf : f.size ≤ 1000000) :
  Calls Tryz.prog 56 #[.string o, .string f] w fun e w' => Re (fun b => w.heap.size ≤ b) (new o.data.toList f.data.toList) e w' ∧ Below w.heap.size w w' := by
 have HR1 := zh fun v h w => nright_is o v h w
 have HR2 := zh fun v h w => nright_is f v h w
 cases h1 : nm o.data.toList with
 | false =>
  rw [show new o.data.toList f.data.toList = (zero, 3) by unfold new; rw [if_neg (by rw [h1]; simp)]]
  go_enter Tryz.func56, Tryz.ntmps56
  go_wp2_with fail
  (with_reducible refine (HR1.out false h1 _).mono ?_); rintro e w1 ⟨rfl, hb1⟩; have HB1 := zh (after_alloc (Below.refl _ w) hb1); have HX := zh (bx_first hb1); have HS := zh (sf_first hb1); clear hb1; dsimp only
  have HB := HB1
  obtain ⟨c0, c1, c2, c3, c4, _⟩ := HX.out; obtain ⟨f0, f1, f2, f3, f4⟩ := HS.out
  go_wp2
  refine bodyPost_ret (v := .tuple #[RV ⟨#[]⟩ ⟨#[]⟩ 0 none 0 0 none 0 0, .int .i64 3]) (by simp [results, Tryz.results56, go_sem, RV, c0, c1, c2, c3, c4]) rfl ?_
  exact ⟨⟨_, isX_zero _ _, rfl⟩, set5 HB.out zl⟩
 | true =>
  cases h2 : nm f.data.toList with
  | false =>
   rw [show new o.data.toList f.data.toList = (zero, 3) by unfold new; rw [if_neg (by rw [h2]; simp)]]
   go_enter Tryz.func56, Tryz.ntmps56
   go_wp2_with fail
   (with_reducible refine (HR1.out true h1 _).mono ?_); rintro e w1 ⟨rfl, hb1⟩; have HB1 := zh (after_alloc (Below.refl _ w) hb1); have HX := zh (bx_first hb1); have HS := zh (sf_first hb1); clear hb1; dsimp only
   go_wp2_with fail
   (with_reducible refine (HR2.out false h2 _).mono ?_); rintro e w2 ⟨rfl, hb2⟩; have HB := zh (Bel.call HB1.out hb2); obtain ⟨c0, c1, c2, c3, c4, _⟩ := HX.out.below hb2 HX.out.2.2.2.2.2; obtain ⟨f0, f1, f2, f3, f4⟩ := HS.out.below hb2 HX.out.2.2.2.2.2; clear hb2; dsimp only
   go_wp2
   refine bodyPost_ret (v := .tuple #[RV ⟨#[]⟩ ⟨#[]⟩ 0 none 0 0 none 0 0, .int .i64 3]) (by simp [results, Tryz.results56, go_sem, RV, c0, c1, c2, c3, c4]) rfl ?_
   exact ⟨⟨_, isX_zero _ _, rfl⟩, set5 HB.out zl⟩
  | true =>
   rw [(new_ok h1 h2).1]
   go_enter Tryz.func56, Tryz.ntmps56
   go_wp2_with fail
   (with_reducible refine (HR1.out true h1 _).mono ?_); rintro e w1 ⟨rfl, hb1⟩; have HB1 := zh (after_alloc (Below.refl _ w) hb1); have HX := zh (bx_first hb1); have HS := zh (sf_first hb1); clear hb1; dsimp only
   go_wp2_with fail
   (with_reducible refine (HR2.out true h2 _).mono ?_); rintro e w2 ⟨rfl, hb2⟩; have HB := zh (Bel.call HB1.out hb2); obtain ⟨c0, c1, c2, c3, c4, _⟩ := HX.out.below hb2 HX.out.2.2.2.2.2; obtain ⟨f0, f1, f2, f3, f4⟩ := HS.out.below hb2 HX.out.2.2.2.2.2; clear hb2; dsimp only
   go_wp2
   refine bodyPost_ret (v := .tuple #[RV o f 0 none 0 0 none 0 0, .int .i64 0]) (by simp [results, Tryz.results56, go_sem, RV, c0, c1, c2, c3, c4]) rfl ?_
   exact ⟨⟨_, ⟨o, f, none, 0, [], none, 0, [], rfl, rfl, SReads.nil _ _, SReads.nil _ _, ⟨Nat.le_refl _, fun _ => rfl⟩, ⟨Nat.le_refl _, fun _ => rfl⟩, (fun _ _ h => by cases h), fun _ _ h => by cases h⟩, rfl⟩, set5 HB.out zl⟩
set_option maxHeartbeats 4000000 in
set_option maxRecDepth 1000000 in
theorem can_code (o f : ByteArray) (ep : Int) (A : Option Addr) (c : Nat) (rs : List ByteArray) (B : Option Addr) (d : Nat) (ws : List ByteArray) (u : ByteArray) (wr : Bool) (w : World) (hA : SReads w A rs) (hB : SReads w B ws) (hf : Few ⟨o.data.toList, f.data.toList, ep, bl rs, bl ws⟩) :
  Calls Tryz.prog 167 #[RV o f ep A rs.length c B ws.length d, .string u, .bool wr] w fun e w' => e = .returned (.bool (can ⟨o.data.toList, f.data.toList, ep, bl rs, bl ws⟩ u.data.toList wr)) ∧ Below w.heap.size w w' := by
 have HA := zh hA; have HBB := zh hB
 have hl1 : rs.length ≤ 40 := by have := hf.2.2.1; rw [bl_len] at this; exact this
 have hl2 : ws.length ≤ 40 := by have := hf.2.2.2.1; rw [bl_len] at this; exact this
 have HRR := zh fun w h1 h2 => right_code o f ep A c rs B d ws w h1 h2 hf
 obtain ⟨bb, hbb⟩ : ∃ b, can ⟨o.data.toList, f.data.toList, ep, bl rs, bl ws⟩ u.data.toList wr = b := ⟨_, rfl⟩
 have HC : Hid (decide (RR ⟨o.data.toList, f.data.toList, ep, bl rs, bl ws⟩ ∧ (u.data.toList = o.data.toList ∨ u.data.toList ∈ bl ws ∨ (wr = false ∧ u.data.toList ∈ bl rs))) = bb) := hbb
 rw [hbb]; clear hA hB hf hbb
 unfold RV at HRR ⊢
 by_cases hr : RR ⟨o.data.toList, f.data.toList, ep, bl rs, bl ws⟩
 case neg =>
  obtain rfl : bb = false := by rw [← HC.out]; exact decide_eq_false fun h => hr h.1
  go_enter Tryz.func167, Tryz.ntmps167
  go_wp2_with fail
  (with_reducible refine (HRR.out _ (HA.out.below (al _ _) zl) (HBB.out.below (al _ _) zl)).mono ?_); rw [decide_eq_false hr]; rintro e w1 ⟨rfl, hb1⟩; have HB1 := zh (after_alloc (Below.refl _ w) hb1); have HX1 := zh (bx_first hb1); obtain ⟨c0, c1, c2, c3, c4, _⟩ := HX1.out; have HA1 := zh (HA.out.below HB1.out zl); have HBB1 := zh (HBB.out.below HB1.out zl); clear hb1; dsimp only
  go_wp2
  go_ret
  exact ⟨rfl, HB1.out⟩
 have HH1 := zh fun w h => among_any A c rs u w h (by omega) hr.2.2.2.2.1.2
 have HH2 := zh fun w h => among_any B d ws u w h (by omega) hr.2.2.2.2.2.1.2
 by_cases ho : u.data.toList = o.data.toList
 ·
  have q := s_eq ho
  obtain rfl : bb = true := by rw [← HC.out]; exact decide_eq_true ⟨hr, .inl ho⟩
  go_enter Tryz.func167, Tryz.ntmps167
  go_wp2_with fail
  (with_reducible refine (HRR.out _ (HA.out.below (al _ _) zl) (HBB.out.below (al _ _) zl)).mono ?_); rw [decide_eq_true hr]; rintro e w1 ⟨rfl, hb1⟩; have HB1 := zh (after_alloc (Below.refl _ w) hb1); have HX1 := zh (bx_first hb1); obtain ⟨c0, c1, c2, c3, c4, _⟩ := HX1.out; have HA1 := zh (HA.out.below HB1.out zl); have HBB1 := zh (HBB.out.below HB1.out zl); clear hb1; dsimp only
  go_wp2
  go_ret
  exact ⟨rfl, HB1.out⟩
 have q := s_ne ho
 by_cases hw : u.data.toList ∈ bl ws
 ·
  obtain rfl : bb = true := by rw [← HC.out]; exact decide_eq_true ⟨hr, .inr (.inl hw)⟩
  rw [decide_eq_true hw] at HH2
  go_enter Tryz.func167, Tryz.ntmps167
  go_wp2_with fail
  (with_reducible refine (HRR.out _ (HA.out.below (al _ _) zl) (HBB.out.below (al _ _) zl)).mono ?_); rw [decide_eq_true hr]; rintro e w1 ⟨rfl, hb1⟩; have HB1 := zh (after_alloc (Below.refl _ w) hb1); have HX1 := zh (bx_first hb1); obtain ⟨c0, c1, c2, c3, c4, _⟩ := HX1.out; have HA1 := zh (HA.out.below HB1.out zl); have HBB1 := zh (HBB.out.below HB1.out zl); clear hb1; dsimp only
  go_wp2_with fail
  (with_reducible refine (HH2.out _ HBB1.out).mono ?_); rintro e w2 ⟨rfl, hb2⟩; have HX2 := zh (HX1.out.below hb2 HX1.out.2.2.2.2.2); replace HB1 := zh (Bel.call HB1.out hb2)
  replace HX1 := HX2
  replace HA1 := zh (HA.out.below HB1.out zl); clear hb2 c0 c1 c2 c3 c4 HX2; obtain ⟨c0, c1, c2, c3, c4, _⟩ := HX1.out; dsimp only
  go_wp2
  go_ret
  exact ⟨rfl, HB1.out⟩
 rw [decide_eq_false hw] at HH2
 cases wr with
 | true =>
  obtain rfl : bb = false := by rw [← HC.out]; exact decide_eq_false (by rintro ⟨_, h | h | ⟨h, _⟩⟩ <;> first | exact ho h | exact hw h | cases h)
  go_enter Tryz.func167, Tryz.ntmps167
  go_wp2_with fail
  (with_reducible refine (HRR.out _ (HA.out.below (al _ _) zl) (HBB.out.below (al _ _) zl)).mono ?_); rw [decide_eq_true hr]; rintro e w1 ⟨rfl, hb1⟩; have HB1 := zh (after_alloc (Below.refl _ w) hb1); have HX1 := zh (bx_first hb1); obtain ⟨c0, c1, c2, c3, c4, _⟩ := HX1.out; have HA1 := zh (HA.out.below HB1.out zl); have HBB1 := zh (HBB.out.below HB1.out zl); clear hb1; dsimp only
  go_wp2_with fail
  (with_reducible refine (HH2.out _ HBB1.out).mono ?_); rintro e w3 ⟨rfl, hb3⟩; have HX3 := zh (HX1.out.below hb3 HX1.out.2.2.2.2.2); replace HB1 := zh (Bel.call HB1.out hb3)
  replace HX1 := HX3
  replace HA1 := zh (HA.out.below HB1.out zl); clear hb3 c0 c1 c2 c3 c4 HX3; obtain ⟨c0, c1, c2, c3, c4, _⟩ := HX1.out; dsimp only
  go_wp2
  go_ret
  exact ⟨rfl, HB1.out⟩
 | false =>
  obtain ⟨b2, hb2⟩ : ∃ b, decide (u.data.toList ∈ bl rs) = b := ⟨_, rfl⟩
  obtain rfl : bb = b2 := by
   rw [← HC.out, ← hb2]
   refine decide_eq_decide.2 ⟨?_, fun h => ⟨hr, .inr (.inr ⟨rfl, h⟩)⟩⟩
   rintro ⟨_, h | h | ⟨_, h⟩⟩
   · exact absurd h ho
   · exact absurd h hw
   · exact h
  rw [hb2] at HH1; clear hb2
  go_enter Tryz.func167, Tryz.ntmps167
  go_wp2_with fail
  (with_reducible refine (HRR.out _ (HA.out.below (al _ _) zl) (HBB.out.below (al _ _) zl)).mono ?_); rw [decide_eq_true hr]; rintro e w1 ⟨rfl, hb1⟩; have HB1 := zh (after_alloc (Below.refl _ w) hb1); have HX1 := zh (bx_first hb1); obtain ⟨c0, c1, c2, c3, c4, _⟩ := HX1.out; have HA1 := zh (HA.out.below HB1.out zl); have HBB1 := zh (HBB.out.below HB1.out zl); clear hb1; dsimp only
  go_wp2_with fail
  (with_reducible refine (HH2.out _ HBB1.out).mono ?_); rintro e w4 ⟨rfl, hb4⟩; have HX4 := zh (HX1.out.below hb4 HX1.out.2.2.2.2.2); replace HB1 := zh (Bel.call HB1.out hb4)
  replace HX1 := HX4
  replace HA1 := zh (HA.out.below HB1.out zl); clear hb4 c0 c1 c2 c3 c4 HX4; obtain ⟨c0, c1, c2, c3, c4, _⟩ := HX1.out; dsimp only
  go_wp2_with fail
  (with_reducible refine (HH1.out _ HA1.out).mono ?_); rintro e w5 ⟨rfl, hb5⟩; have HX5 := zh (HX1.out.below hb5 HX1.out.2.2.2.2.2); replace HB1 := zh (Bel.call HB1.out hb5)
  replace HX1 := HX5
  replace HA1 := zh (HA.out.below HB1.out zl); clear hb5 c0 c1 c2 c3 c4 HX5; obtain ⟨c0, c1, c2, c3, c4, _⟩ := HX1.out; dsimp only
  go_wp2
  go_ret
  exact ⟨rfl, HB1.out⟩
def ck (r : Rt) (u : Tm) : Int := if ¬ RR r then 1 else if ¬ nm u = true then 3 else 0
set_option maxHeartbeats 4000000 in
set_option maxRecDepth 1000000 in
theorem check_code (o f : ByteArray) (ep : Int) (A : Option Addr) (c : Nat) (rs : List ByteArray) (B : Option Addr) (d : Nat) (ws : List ByteArray) (u : ByteArray) (w : World) (hA : SReads w A rs) (hB : SReads w B ws) (hf : Few ⟨o.data.toList, f.data.toList, ep, bl rs, bl ws⟩) :
  Calls Tryz.prog 144 #[RV o f ep A rs.length c B ws.length d, .string u] w fun e w' => e = .returned (.int .i64 (ck ⟨o.data.toList, f.data.toList, ep, bl rs, bl ws⟩ u.data.toList)) ∧ Below w.heap.size w w' := by
 have HA := zh hA; have HBB := zh hB
 have HRR := zh fun w h1 h2 => right_code o f ep A c rs B d ws w h1 h2 hf
 have HU := zh fun v h w => nright_is u v h w
 clear hA hB hf
 unfold RV at HRR ⊢
 by_cases hr : RR ⟨o.data.toList, f.data.toList, ep, bl rs, bl ws⟩
 case neg =>
  rw [show ck ⟨o.data.toList, f.data.toList, ep, bl rs, bl ws⟩ u.data.toList = 1 by unfold ck; rw [if_pos hr]]
  go_enter Tryz.func144, Tryz.ntmps144
  go_wp2_with fail
  (with_reducible refine (HRR.out _ (HA.out.below (al _ _) zl) (HBB.out.below (al _ _) zl)).mono ?_); rw [decide_eq_false hr]; rintro e w1 ⟨rfl, hb1⟩; have HB1 := zh (after_alloc (Below.refl _ w) hb1); clear hb1; dsimp only
  go_wp2
  go_ret
  exact ⟨rfl, HB1.out⟩
 cases hu : nm u.data.toList with
 | false =>
  rw [show ck ⟨o.data.toList, f.data.toList, ep, bl rs, bl ws⟩ u.data.toList = 3 by unfold ck; rw [if_neg (by simpa using hr), if_pos (by rw [hu]; decide)]]
  go_enter Tryz.func144, Tryz.ntmps144
  go_wp2_with fail
  (with_reducible refine (HRR.out _ (HA.out.below (al _ _) zl) (HBB.out.below (al _ _) zl)).mono ?_); rw [decide_eq_true hr]; rintro e w1 ⟨rfl, hb1⟩; have HB1 := zh (after_alloc (Below.refl _ w) hb1); clear hb1; dsimp only
  go_wp2_with fail
  (with_reducible refine (HU.out false hu _).mono ?_); rintro e w2 ⟨rfl, hb2⟩; have HB2 := zh (Bel.call HB1.out hb2); clear hb2; dsimp only
  go_wp2
  go_ret
  exact ⟨rfl, HB2.out⟩
 | true =>
  rw [show ck ⟨o.data.toList, f.data.toList, ep, bl rs, bl ws⟩ u.data.toList = 0 by unfold ck; rw [if_neg (by simpa using hr), if_neg (by rw [hu]; decide)]]
  go_enter Tryz.func144, Tryz.ntmps144
  go_wp2_with fail
  (with_reducible refine (HRR.out _ (HA.out.below (al _ _) zl) (HBB.out.below (al _ _) zl)).mono ?_); rw [decide_eq_true hr]; rintro e w1 ⟨rfl, hb1⟩; have HB1 := zh (after_alloc (Below.refl _ w) hb1); clear hb1; dsimp only
  go_wp2_with fail
  (with_reducible refine (HU.out true hu _).mono ?_); rintro e w2 ⟨rfl, hb2⟩; have HB2 := zh (Bel.call HB1.out hb2); clear hb2; dsimp only
  go_wp2
  go_ret
  exact ⟨rfl, HB2.out⟩
end Go.Proofs.YtbdealddjonobaaGreat.Rig

namespace Go.Proofs.YtbdealddjonobaaGreat.Rig
open Go.RowKit Wire

set_option linter.unusedSimpArgs false
set_option linter.unusedVariables false
end Go.Proofs.YtbdealddjonobaaGreat.Rig

namespace Go.Proofs.YtbdealddjonobaaGreat.Rig
open Go.RowKit Wire

set_option linter.unusedSimpArgs false
set_option linter.unusedVariables false
end Go.Proofs.YtbdealddjonobaaGreat.Rig

namespace Go.Proofs.YtbdealddjonobaaGreat.Rig
open Go.RowKit Wire

set_option linter.unusedSimpArgs false
set_option linter.unusedVariables false
set_option maxHeartbeats 8000000 in
set_option maxRecDepth 1000000 in
theorem put_code (o f : ByteArray) (ep : Int) (A : Option Addr) (c : Nat) (rs : List ByteArray) (B : Option Addr) (d : Nat) (ws : List ByteArray) (w : World) (hA : SReads w A rs) (hB : SReads w B ws) (hf : Few ⟨o.data.toList, f.data.toList, ep, bl rs, bl ws⟩) :
    Calls Tryz.prog 131 #[RV o f ep A rs.length c B ws.length d] w fun e w' => Srt (putR ⟨o.data.toList, f.data.toList, ep, bl rs, bl ws⟩) e ∧ Below w.heap.size w w' := by
  have HA := zh hA; have HBB := zh hB
  have HRR := zh fun w h1 h2 => right_code o f ep A c rs B d ws w h1 h2 hf
  by_cases hr : RR ⟨o.data.toList, f.data.toList, ep, bl rs, bl ws⟩
  case neg =>
    rw [show putR ⟨o.data.toList, f.data.toList, ep, bl rs, bl ws⟩ = ([], 1) by unfold putR; rw [if_neg hr]]; clear hA hB hf
    unfold RV at HRR ⊢
    go_enter Tryz.func131, Tryz.ntmps131
    go_wp2_with fail
    (with_reducible refine (HRR.out _ (HA.out.below (al _ _) zl) (HBB.out.below (al _ _) zl)).mono ?_); rw [decide_eq_false hr]; rintro e w1 ⟨rfl, hb1⟩; have HB1 := zh (after_alloc (Below.refl _ w) hb1); obtain ⟨c0, c1, c2, c3, c4, _⟩ := bx_first hb1; have HA1 := zh (HA.out.below HB1.out zl); have HBB1 := zh (HBB.out.below HB1.out zl); clear hb1; dsimp only
    go_wp2
    go_ret2
    exact ⟨⟨⟨#[]⟩, rfl, rfl⟩, HB1.out⟩
  · rw [show putR ⟨o.data.toList, f.data.toList, ep, bl rs, bl ws⟩ = (rowR ⟨o.data.toList, f.data.toList, ep, bl rs, bl ws⟩, 0) by unfold putR; rw [if_pos hr]]
    obtain ⟨l5, l4⟩ := row_list hr; obtain ⟨a1, a2, ⟨a3, a3'⟩, a4, a5, a6, a7⟩ := id hr
    simp only [bl_len] at a3 a3' a4
    have hs5 := flat_small _ fun t ht => Nat.le_trans (lsd_small a5 t ht) (show 128 ≤ 4000 by decide)
    have hs6 := flat_small _ fun t ht => Nat.le_trans (lsd_small a6 t ht) (show 128 ≤ 4000 by decide)
    rw [bl_len] at hs5 hs6
    simp only at hs5 hs6
    obtain ⟨k, hk⟩ : ∃ k : Nat, ep.toNat = k := ⟨_, rfl⟩
    have hck : IntKind.u64.wrap ep = (k : Int) := by rw [IntKind.wrap_u64]; omega
    have HP := zh fun w => put_any k w (by omega)
    have HL1 := zh fun w h => putAll_any A c rs w h (by omega) (by omega)
    have HL2 := zh fun w h => putAll_any B d ws w h (by omega) (by omega)
    have HL5 : Hid (∀ (a b c' d' e' : ByteArray) (g : Nat) (w : World), a.data.toList = o.data.toList → b.data.toList = f.data.toList → c'.data.toList = put k → d'.data.toList = putAll (bl rs) → e'.data.toList = putAll (bl ws) → SReads w (some ⟨g, 0, none⟩) [a, b, c', d', e'] →
        Calls Tryz.prog 132 #[.slice (some ⟨g, 0, none⟩) 5 5] w fun e w' => St (rowR ⟨o.data.toList, f.data.toList, ep, bl rs, bl ws⟩) e ∧ Below w.heap.size w w') := fun a b c' d' e' g w h1 h2 h3 h4 h5 hr => by
      have eb : bl [a, b, c', d', e'] = [o.data.toList, f.data.toList, put ep.toNat, putAll (bl rs), putAll (bl ws)] := by
        show [a.data.toList, b.data.toList, c'.data.toList, d'.data.toList, e'.data.toList] = _
        rw [h1, h2, h3, h4, h5, hk]
      have h := putAll_any (some ⟨g, 0, none⟩) 5 [a, b, c', d', e'] w hr (by simp) (by rw [eb]; have := flat_small _ l4; simp only [List.length_cons, List.length_nil] at this; omega)
      rw [eb] at h
      exact h
    clear hA hB hf l5 l4 a1 a2 a4 a5 a6 a7 hs5 hs6 hk
    unfold RV at HRR ⊢
    go_enter Tryz.func131, Tryz.ntmps131
    go_wp2_with fail
    (with_reducible refine (HRR.out _ (HA.out.below (al _ _) zl) (HBB.out.below (al _ _) zl)).mono ?_); rw [decide_eq_true hr]; rintro e w1 ⟨rfl, hb1⟩; have HB1 := zh (after_alloc (Below.refl _ w) hb1)
    have hx1 := bx_first hb1
    clear hb1; dsimp only; obtain ⟨c0, c1, c2, c3, c4, _⟩ := id hx1
    go_wp2_with fail
    (with_reducible refine (HP.out _).mono ?_); rintro e w2 ⟨⟨P, hP, rfl⟩, hb2⟩; have HB2 := zh (Bel.call HB1.out hb2)
    have hx2 := hx1.below hb2 hx1.2.2.2.2.2
    clear hb2 c0 c1 c2 c3 c4; dsimp only
    go_wp2_with fail
    refine wp_region_held_drew (S := fun w' => Bx w.heap.size w' o f ep A rs.length c B ws.length d) (by kernel_rfl) (hx2.below (Below.drewN' (Below.refl w2.heap.size w2) 1) hx2.2.2.2.2.2) (fun hHeld => ?_)
    refine zqT 0 ?_ ?_ ?_; rotate_left
    · intro w' hSw; obtain ⟨c0, c1, c2, c3, c4, _⟩ := hSw; go_simp; try with_reducible rfl
    (try simp only [Act.put, zq1, zq2, zq3]); refine zqT 1 ?_ ?_ ?_; rotate_left
    · intro w' hSw; obtain ⟨c0, c1, c2, c3, c4, _⟩ := hSw; go_simp; try with_reducible rfl
    (try simp only [Act.put, zq1, zq2, zq3]); refine zqT 2 ?_ ?_ ?_; rotate_left
    · intro w' hSw; obtain ⟨c0, c1, c2, c3, c4, _⟩ := hSw; go_simp; try with_reducible rfl
    (try simp only [Act.put, zq1, zq2, zq3]); refine zqT 3 ?_ ?_ ?_; rotate_left
    · intro w' hSw; obtain ⟨c0, c1, c2, c3, c4, _⟩ := hSw; go_simp; try with_reducible rfl
    (try simp only [Act.put, zq1, zq2, zq3]); refine zqT 4 ?_ ?_ ?_; rotate_left
    · intro w' hSw; obtain ⟨c0, c1, c2, c3, c4, _⟩ := hSw; go_simp; try with_reducible rfl
    (try simp only [Act.put, zq1, zq2, zq3]); refine zqT 5 ?_ ?_ ?_; rotate_left
    · intro w' hSw; obtain ⟨c0, c1, c2, c3, c4, _⟩ := hSw; go_simp; try with_reducible rfl
    (try simp only [Act.put, zq1, zq2, zq3]); refine zqT 6 ?_ ?_ ?_; rotate_left
    · intro w' hSw; obtain ⟨c0, c1, c2, c3, c4, _⟩ := hSw; go_simp; try with_reducible rfl
    (try simp only [Act.put, zq1, zq2, zq3]); refine zqT 8 ?_ ?_ ?_; rotate_left
    · intro w' hSw; obtain ⟨c0, c1, c2, c3, c4, _⟩ := hSw; go_simp; try with_reducible rfl
    (try simp only [Act.put, zq1, zq2, zq3]); refine zqT 9 ?_ ?_ ?_; rotate_left
    · intro w' hSw; obtain ⟨c0, c1, c2, c3, c4, _⟩ := hSw; go_simp; try with_reducible rfl
    try simp only [Act.put, zq1, zq2, zq3]
    have HB0 : Hid (Below w.heap.size w w2.drew) := zh (Below.drewN' HB2.out 1)
    have hx0 := hHeld
    clear hHeld; refine zqR [7] ?_
    refine zqN fun K hK => ?_
    go_simp
    go_at_call 132
    (with_reducible refine (HL1.out _ (HA.out.below HB0.out zl)).mono ?_); rintro e w3 ⟨⟨P1, hP1, rfl⟩, hb3⟩; have HB3 := zh (Bel.call HB0.out hb3)
    have hx3 := hx0.below hb3 hx0.2.2.2.2.2
    clear hb3; dsimp only; refine hK.out _ _ hx3 (fun hHeld => ?_); (try simp only [Act.put, zq1, zq2, zq3]); clear hHeld; refine zqR [10] ?_
    refine zqN fun K hK => ?_
    go_simp
    go_at_call 132
    (with_reducible refine (HL2.out _ (HBB.out.below HB3.out zl)).mono ?_); rintro e w4 ⟨⟨P2, hP2, rfl⟩, hb4⟩; have HB4 := zh (Bel.call HB3.out hb4)
    have hx4 := hx3.below hb4 hx3.2.2.2.2.2
    clear hb4; dsimp only; refine hK.out _ _ hx4 (fun hHeld => ?_); (try simp only [Act.put, zq1, zq2, zq3]); clear hHeld; refine zqR [11] ?_
    refine zqN fun K hK => ?_
    go_simp; have HB5 := zh (HB4.out.alloc HB4.out.size (.cells #[.string o, .string f, .string P, .string P1, .string P2] 9))
    have hx5 := hx4.below ((Below.refl w4.heap.size w4).alloc zl (.cells #[.string o, .string f, .string P, .string P1, .string P2] 9)) hx4.2.2.2.2.2
    refine hK.out _ _ hx5 (fun hHeld => ?_); (try simp only [Act.put, zq1, zq2, zq3]); clear hHeld; refine zqR [12] ?_
    refine zqN fun K hK => ?_
    go_simp
    go_at_call 132
    (with_reducible refine (HL5.out o f P P1 P2 _ _ rfl rfl hP hP1 hP2 (lit5_reads w4 o f P P1 P2 _ rfl)).mono ?_); rintro e w6 ⟨⟨Q, hQ, rfl⟩, hb6⟩; have HB6 := zh (Bel.call HB5.out hb6)
    have hx6 := hx5.below hb6 hx5.2.2.2.2.2
    clear hb6; dsimp only; refine hK.out _ _ hx6 (fun hHeld => ?_); (try simp only [Act.put, zq1, zq2, zq3]); refine zqT 13 ?_ ?_ ?_; rotate_left
    · intro w' hSw; obtain ⟨c0, c1, c2, c3, c4, _⟩ := hSw; go_simp; try with_reducible rfl
    (try simp only [Act.put, zq1, zq2, zq3]); refine zqT 14 ?_ ?_ ?_; rotate_left
    · intro w' hSw; obtain ⟨c0, c1, c2, c3, c4, _⟩ := hSw; go_simp; try with_reducible rfl
    try simp only [Act.put, zq1, zq2, zq3]
    refine wpAnyH_done (by kernel_rfl) ?_ _
    go_wp2
    go_ret2
    exact ⟨⟨Q, hQ, rfl⟩, HB6.out⟩
end Go.Proofs.YtbdealddjonobaaGreat.Rig

