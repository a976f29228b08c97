/-
  THE CODE's place, among (package rights): where a name stands in a list that rises. By an AI agent; no person has read it.
-/
import Derived.Test.YtjikepfgfbnheaaG1
namespace Go.Proofs.Ytjikepfgfbnheaa.Rig
open Go.RowKit Wire

/-- The first place whose name is not less, and whether that name is it. -/
def plc (u : Tm) : List Tm → Nat × Bool
  | [] => (0, false)
  | y :: l => if lt y u = true then ((plc u l).1 + 1, (plc u l).2) else (0, !lt u y)
theorem plc_le (u : Tm) : ∀ l : List Tm, (plc u l).1 ≤ l.length
  | [] => Nat.le_refl _
  | y :: l => by
    unfold plc
    split
    · simpa using plc_le u l
    · exact Nat.zero_le _
theorem plc_stop {u y : Tm} {l : List Tm} (h : lt y u = false) : plc u (y :: l) = (0, !lt u y) := by
  unfold plc; rw [if_neg (by simp [h])]
theorem plc_step {u y : Tm} {l : List Tm} (h : lt y u = true) : plc u (y :: l) = ((plc u l).1 + 1, (plc u l).2) := by
  rw [plc, if_pos h]
theorem plc_mem (u : Tm) : ∀ {l : List Tm}, l.Pairwise (fun a b => lt a b = true) → (plc u l).2 = decide (u ∈ l)
  | [], _ => by simp [plc]
  | y :: l, h => by
    obtain ⟨h1, h2⟩ := List.pairwise_cons.1 h
    by_cases hy : lt y u = true
    · rw [plc_step hy]
      show (plc u l).2 = _
      rw [plc_mem u h2]
      have hne : u ≠ y := fun e => by rw [e, lt_irrefl] at hy; cases hy
      simp [hne]
    · rw [plc_stop (by simpa using hy)]
      show (!lt u y) = _
      by_cases hu : lt u y = true
      · have hne : u ≠ y := fun e => by rw [e, lt_irrefl] at hu; cases hu
        have hn : u ∉ l := fun hm => by
          have := lt_trans hu (h1 u hm)
          rw [lt_irrefl] at this; cases this
        simp [hu, hne, hn]
      · have e : u = y := by
          rcases lt_tri u y with h | h | h
          · exact absurd h hu
          · exact h
          · exact absurd h hy
        simp [e, lt_irrefl]
theorem plc_ins (u : Tm) : ∀ {l : List Tm}, u ∉ l → l.take (plc u l).1 ++ u :: l.drop (plc u l).1 = ins u l
  | [], _ => rfl
  | y :: l, hn => by
    have hy : ¬ u = y := fun e => hn (by rw [e]; simp)
    have hl : u ∉ l := fun hm => hn (List.mem_cons_of_mem _ hm)
    by_cases h : lt y u = true
    · rw [plc_step h]
      show y :: (l.take (plc u l).1 ++ u :: l.drop (plc u l).1) = _
      rw [plc_ins u hl, ins, if_neg (by rw [lt_asymm h]; simp)]
    · rw [plc_stop (by simpa using h)]
      have h2 : lt u y = true := by
        rcases lt_tri u y with h3 | h3 | h3
        · exact h3
        · exact absurd h3 hy
        · exact absurd h3 h
      show u :: y :: l = _
      rw [ins, if_pos h2]
theorem plc_del (u : Tm) : ∀ {l : List Tm}, l.Pairwise (fun a b => lt a b = true) → u ∈ l → (plc u l).1 < l.length ∧ l.take (plc u l).1 ++ l.drop ((plc u l).1 + 1) = del u l
  | [], _, h => by cases h
  | y :: l, hp, hm => by
    obtain ⟨h1, h2⟩ := List.pairwise_cons.1 hp
    by_cases h : lt y u = true
    · have hne : ¬ y = u := fun e => by rw [e, lt_irrefl] at h; cases h
      have hml : u ∈ l := by
        rcases List.mem_cons.1 hm with e | e
        · exact absurd e.symm hne
        · exact e
      obtain ⟨g1, g2⟩ := plc_del u h2 hml
      rw [plc_step h]
      refine ⟨by simp only [List.length_cons]; omega, ?_⟩
      show y :: (l.take (plc u l).1 ++ l.drop ((plc u l).1 + 1)) = _
      rw [g2, del, del, List.filter_cons, if_pos (by simpa using hne)]
    · have e : y = u := by
        rcases List.mem_cons.1 hm with e | e
        · exact e.symm
        · exact absurd (h1 u e) h
      subst e
      rw [plc_stop (by simpa using h)]
      refine ⟨by simp, ?_⟩
      show l = _
      have hn : y ∉ l := fun hm2 => by
        have := h1 y hm2
        rw [lt_irrefl] at this; cases this
      rw [del, List.filter_cons, if_neg (by simp)]
      exact (del_not hn).symm
/-- One name further. -/
theorem plc_more (u y : Tm) : ∀ {a b : List Tm}, (∀ x ∈ a, lt x u = true) → plc u (a ++ b) = (a.length + (plc u b).1, (plc u b).2)
  | [], b, _ => by simp
  | x :: a, b, h => by
    rw [List.cons_append, plc_step (h x (by simp)), plc_more u y (a := a) fun z hz => h z (List.mem_cons_of_mem _ hz)]
    simp only [List.length_cons]
    rw [show a.length + (plc u b).1 + 1 = a.length + 1 + (plc u b).1 by omega]
theorem plc_at {u : Tm} {ys : List ByteArray} {k : Nat} {y : ByteArray} (hk : k < ys.length) (hy : ys.getD k ByteArray.empty = y) (ha : ∀ x ∈ (bl ys).take k, lt x u = true) (h : lt y.data.toList u = false) : plc u (bl ys) = (k, !lt u y.data.toList) := by
  have e := bl_drop (ys := ys) hk
  rw [hy] at e
  have e2 : bl ys = (bl ys).take k ++ y.data.toList :: (bl ys).drop (k + 1) := by rw [← e, List.take_append_drop]
  have hl : ((bl ys).take k).length = k := by rw [List.length_take, bl_len]; omega
  rw [e2, plc_more u y.data.toList ha, plc_stop h, hl]; rfl
theorem plc_end {u : Tm} {ys : List ByteArray} (ha : ∀ x ∈ (bl ys).take ys.length, lt x u = true) : plc u (bl ys) = (ys.length, false) := by
  rw [bl_take_all] at ha
  have := plc_more u u (b := []) ha
  rw [List.append_nil, bl_len] at this
  exact this
set_option maxHeartbeats 4000000 in
set_option maxRecDepth 1000000 in
theorem place_any (a : Option Addr) (c : Nat) (ys : List ByteArray) (u : ByteArray) (w : World) (hr : SReads w a ys) (hn : ys.length ≤ 1000000) :
    Calls Try.prog 51 #[.slice a ys.length c, .string u, .func (.func 52) #[] #[]] w fun e w' => e = .returned (.tuple #[.int .i64 ((plc u.data.toList (bl ys)).1 : Int), .bool (plc u.data.toList (bl ys)).2]) ∧ Below w.heap.size w w' := by
  obtain ⟨P, B, hp⟩ : ∃ P B, plc u.data.toList (bl ys) = (P, B) := ⟨_, _, rfl⟩
  rw [hp]
  have HP := Lib.hid hp
  have HR := Lib.hid hr
  clear hr hp
  dsimp only
  go_enter Try.func51, Try.ntmps51
  go_wp2_with fail
  go_loopw [12] (fun i wr => ∃ k : Nat, k ≤ ys.length ∧ i = .int .i64 (k : Int) ∧ Hid (∀ x ∈ (bl ys).take k, lt x u.data.toList = true) ∧ wr = w) (fun i _ => ys.length - (intOf i).toNat)
  case atStart => exact ⟨0, Nat.zero_le _, rfl, Lib.hid (by simp), rfl⟩
  case round =>
    obtain ⟨k, hk, rfl, HA, rfl⟩ := hrel
    by_cases hlt : k < ys.length
    · obtain ⟨bk, off, rfl, hbl, hcl⟩ := HR.out k hlt
      obtain ⟨y, hy⟩ : ∃ y, ys.getD k ByteArray.empty = y := ⟨_, rfl⟩
      rw [hy] at hcl
      have HY := Lib.hid hy
      clear hy hbl
      obtain ⟨b1, hb1⟩ : ∃ b, lt y.data.toList u.data.toList = b := ⟨_, rfl⟩
      have HB1 := Lib.hid hb1
      cases b1 with
      | true =>
        clear hb1
        go_wp2_with (go_at_call 52; refine (less_any _ _ _).mono ?_; rintro e w1 ⟨rfl, rfl⟩; rw [show Op.bytesLess y.data.toList u.data.toList = true from HB1.out])
        go_roundw
        case rel =>
          refine ⟨k + 1, by omega, by go_num, Lib.hid ?_, trivial⟩
          have hg := bl_get (ys := ys) hlt
          rw [HY.out] at hg
          rw [hg]
          intro x hx
          rcases List.mem_append.1 hx with hx | hx
          · exact HA.out x hx
          · rw [List.mem_singleton.1 hx]; exact HB1.out
        case measure => simp [intOf]; omega
      | false =>
        have hpl := plc_at hlt HY.out HA.out hb1
        rw [HP.out] at hpl
        obtain ⟨rfl, hB⟩ := Prod.mk.inj hpl
        have HBB := Lib.hid hB
        clear hb1 hpl hB
        go_wp2_with (go_at_call 52; refine (less_any _ _ _).mono ?_; rintro e w1 ⟨rfl, rfl⟩; first | rw [show Op.bytesLess y.data.toList u.data.toList = false from HB1.out] | skip)
        go_ret2
        exact ⟨by rw [HBB.out]; rfl, Below.refl _ _⟩
    · have hk2 : k = ys.length := by omega
      have hpl := plc_end (u := u.data.toList) (ys := ys) (by have := HA.out; rw [hk2] at this; exact this)
      rw [HP.out] at hpl
      obtain ⟨rfl, rfl⟩ := Prod.mk.inj hpl
      clear hpl
      subst hk2
      go_wp2
      go_ret2
      exact ⟨rfl, Below.refl _ _⟩
set_option maxHeartbeats 2000000 in
set_option maxRecDepth 1000000 in
theorem among_any (a : Option Addr) (c : Nat) (ys : List ByteArray) (u : ByteArray) (w : World) (hr : SReads w a ys) (hn : ys.length ≤ 1000000) (hp : (bl ys).Pairwise (fun a b => lt a b = true)) :
    Calls Try.prog 32 #[.slice a ys.length c, .string u] w fun e w' => e = .returned (.bool (decide (u.data.toList ∈ bl ys))) ∧ Below w.heap.size w w' := by
  rw [← plc_mem u.data.toList hp]
  have HR := Lib.hid hr
  clear hr hp
  have hmf : ∀ (fn : Fn) (first cap : Array Value) (w : World), (Instr.makeFunc fn first cap).run Try.prog w = .ok (.func fn first cap) w := fun _ _ _ _ => rfl
  go_enter Try.func32, Try.ntmps32
  go_wp2_with (go_at_call 51; refine (place_any _ _ _ _ _ HR.out hn).mono ?_; rintro e w1 ⟨rfl, hb⟩; have HB := Lib.hid hb; clear hb; dsimp only)
  go_ret
  exact ⟨rfl, HB.out⟩
end Go.Proofs.Ytjikepfgfbnheaa.Rig
