/-
  PLAIN FACTS, OF NO PROGRAM: who can what behind a grant and behind a revocation (layer 7). By an AI agent; no person has read it.
-/
import Derived.Test.YtjikepfgfbnheaaG1
namespace Go.Proofs.Ytjikepfgfbnheaa.Rig
open Wire

theorem can_yes {r : Rt} {u : Tm} {wr : Bool} (hr : RR r) (h : u = r.o ∨ u ∈ r.ws ∨ (wr = false ∧ u ∈ r.rs)) : can r u wr = true := decide_eq_true ⟨hr, h⟩
theorem can_no {r : Rt} {u : Tm} {wr : Bool} (h : ¬ (u = r.o ∨ u ∈ r.ws ∨ (wr = false ∧ u ∈ r.rs))) : can r u wr = false := decide_eq_false fun h2 => h h2.2
theorem can_wrong {r : Rt} {u : Tm} {wr : Bool} (h : ¬ RR r) : can r u wr = false := decide_eq_false fun h2 => h h2.1
theorem can_same {r s : Rt} {u : Tm} {wr : Bool} (hr : RR r) (hs : RR s) (h : (u = s.o ∨ u ∈ s.ws ∨ (wr = false ∧ u ∈ s.rs)) ↔ (u = r.o ∨ u ∈ r.ws ∨ (wr = false ∧ u ∈ r.rs))) : can s u wr = can r u wr :=
  decide_eq_decide.2 ⟨fun h2 => ⟨hr, h.1 h2.2⟩, fun h2 => ⟨hs, h.2 h2.2⟩⟩
structure Granted (r s : Rt) (u : Tm) (wr : Bool) : Prop where
  none : can r u false = false
  room : r.rs.length + r.ws.length < 5
  right : RR s
  reads : can s u false = true
  writes : can s u true = wr
  epoch : s.ep = r.ep
  others : ∀ x b, x ≠ u → can s x b = can r x b
  owner : s.o = r.o
  file : s.f = r.f
  more : s.rs.length + s.ws.length = r.rs.length + r.ws.length + 1
  isnt : u ≠ r.o ∧ u ∉ r.rs ∧ u ∉ r.ws
  is : (wr = true ∧ s.rs = r.rs ∧ s.ws = ins u r.ws) ∨ (wr = false ∧ s.rs = ins u r.rs ∧ s.ws = r.ws)
theorem gr_ok {r s : Rt} {u : Tm} {wr : Bool} (hr : RR r) (hu : nm u = true) (h : gr r u wr = (s, 0)) : Granted r s u wr := by
  rcases gr_cases r u wr hr hu with ⟨e, _⟩ | ⟨e, _⟩ | ⟨h1, h2, e, h3⟩
  · rw [h] at e; exact absurd (Prod.mk.inj e).2 (by decide)
  · rw [h] at e; exact absurd (Prod.mk.inj e).2 (by decide)
  rw [h] at h3
  simp only at h3
  have n1 : u ≠ r.o := fun e => h1 (.inl e)
  have n2 : u ∉ r.rs := fun e => h1 (.inr (.inl e))
  have n3 : u ∉ r.ws := fun e => h1 (.inr (.inr e))
  have hn : can r u false = false := can_no (by rintro (h | h | ⟨_, h⟩); exact n1 h; exact n3 h; exact n2 h)
  rcases e with ⟨rfl, e⟩ | ⟨rfl, e⟩
  · rw [h] at e
    have es := (Prod.mk.inj e).1
    subst es
    refine ⟨hn, h2, h3, can_yes h3 (.inr (.inl (mem_ins.2 (.inl rfl)))), can_yes h3 (.inr (.inl (mem_ins.2 (.inl rfl)))), rfl, fun x b hx => can_same hr h3 ?_, rfl, rfl, by simp only [ins_len]; omega, ⟨n1, n2, n3⟩, .inl ⟨rfl, rfl, rfl⟩⟩
    simp only [mem_ins]
    exact ⟨fun h => h.imp_right fun h => h.imp_left fun h => h.resolve_left hx, fun h => h.imp_right fun h => h.imp_left .inr⟩
  · rw [h] at e
    have es := (Prod.mk.inj e).1
    subst es
    refine ⟨hn, h2, h3, can_yes h3 (.inr (.inr ⟨rfl, mem_ins.2 (.inl rfl)⟩)), can_no ?_, rfl, fun x b hx => can_same hr h3 ?_, rfl, rfl, by simp only [ins_len]; omega, ⟨n1, n2, n3⟩, .inr ⟨rfl, rfl, rfl⟩⟩
    · rintro (h | h | ⟨h, _⟩)
      · exact n1 h
      · exact n3 h
      · cases h
    · simp only [mem_ins]
      exact ⟨fun h => h.imp_right fun h => h.imp_right fun h => ⟨h.1, h.2.resolve_left hx⟩, fun h => h.imp_right fun h => h.imp_right fun h => ⟨h.1, .inr h.2⟩⟩
theorem gr_there {r s : Rt} {u : Tm} {wr : Bool} (hr : RR r) (hu : nm u = true) (h : gr r u wr = (s, 5)) : s = zero ∧ can r u false = true := by
  rcases gr_cases r u wr hr hu with ⟨e, h1⟩ | ⟨e, _⟩ | ⟨_, _, e, _⟩
  · rw [h] at e
    refine ⟨(Prod.mk.inj e).1, can_yes hr ?_⟩
    rcases h1 with h1 | h1 | h1
    · exact .inl h1
    · exact .inr (.inr ⟨rfl, h1⟩)
    · exact .inr (.inl h1)
  · rw [h] at e; exact absurd (Prod.mk.inj e).2 (by decide)
  · rcases e with ⟨_, e⟩ | ⟨_, e⟩ <;> (rw [h] at e; exact absurd (Prod.mk.inj e).2 (by decide))
theorem gr_full {r s : Rt} {u : Tm} {wr : Bool} (hr : RR r) (hu : nm u = true) (h : gr r u wr = (s, 10)) : s = zero ∧ can r u false = false ∧ r.rs.length + r.ws.length = 5 := by
  rcases gr_cases r u wr hr hu with ⟨e, _⟩ | ⟨e, h1, h2⟩ | ⟨_, _, e, _⟩
  · rw [h] at e; exact absurd (Prod.mk.inj e).2 (by decide)
  · rw [h] at e
    exact ⟨(Prod.mk.inj e).1, can_no (by rintro (h | h | ⟨_, h⟩); exact h1 (.inl h); exact h1 (.inr (.inr h)); exact h1 (.inr (.inl h))), h2⟩
  · rcases e with ⟨_, e⟩ | ⟨_, e⟩ <;> (rw [h] at e; exact absurd (Prod.mk.inj e).2 (by decide))
structure Revoked (r s : Rt) (u : Tm) : Prop where
  could : can r u false = true
  other : u ≠ r.o
  epochs : r.ep < 7
  right : RR s
  no : ∀ b, can s u b = false
  epoch : s.ep = r.ep + 1
  others : ∀ x b, x ≠ u → can s x b = can r x b
  is : s = ⟨r.o, r.f, r.ep + 1, del u r.rs, del u r.ws⟩
theorem not_owner {r : Rt} (hr : RR r) {u : Tm} (h : u ∈ r.rs ∨ u ∈ r.ws) : u ≠ r.o := by
  rcases h with h | h
  · exact (hr.2.2.2.2.1.1 u h).2
  · exact (hr.2.2.2.2.2.1.1 u h).2
theorem rv_ok {r s : Rt} {u : Tm} (hr : RR r) (hu : nm u = true) (h : rv r u = (s, 0)) : Revoked r s u := by
  rcases rv_cases r u hr hu with ⟨e, _⟩ | ⟨e, _⟩ | ⟨h1, h2, e, h3⟩
  · rw [h] at e; exact absurd (Prod.mk.inj e).2 (by decide)
  · rw [h] at e; exact absurd (Prod.mk.inj e).2 (by decide)
  rw [h] at h3 e
  have es := (Prod.mk.inj e).1
  subst es
  simp only at h3
  have n1 := not_owner hr h1
  refine ⟨can_yes hr ?_, n1, h2, h3, fun b => can_no ?_, rfl, fun x b hx => can_same hr h3 ?_, rfl⟩
  · rcases h1 with h1 | h1
    · exact .inr (.inr ⟨rfl, h1⟩)
    · exact .inr (.inl h1)
  · rintro (h | h | ⟨_, h⟩)
    · exact n1 h
    · exact (mem_del.1 h).2 rfl
    · exact (mem_del.1 h).2 rfl
  · simp only [mem_del]
    exact ⟨fun h => h.imp_right fun h => h.imp (fun h => h.1) fun h => ⟨h.1, h.2.1⟩, fun h => h.imp_right fun h => h.imp (fun h => ⟨h, hx⟩) fun h => ⟨h.1, h.2, hx⟩⟩
theorem rv_none {r s : Rt} {u : Tm} (hr : RR r) (hu : nm u = true) (h : rv r u = (s, 4)) : s = zero ∧ ((u = r.o ∧ can r u false = true) ∨ (u ≠ r.o ∧ can r u false = false)) := by
  rcases rv_cases r u hr hu with ⟨e, h1, h2⟩ | ⟨e, _⟩ | ⟨_, _, e, _⟩
  · rw [h] at e
    refine ⟨(Prod.mk.inj e).1, ?_⟩
    by_cases ho : u = r.o
    · exact .inl ⟨ho, can_yes hr (.inl ho)⟩
    · exact .inr ⟨ho, can_no (by rintro (h | h | ⟨_, h⟩); exact ho h; exact h2 h; exact h1 h)⟩
  · rw [h] at e; exact absurd (Prod.mk.inj e).2 (by decide)
  · rw [h] at e; exact absurd (Prod.mk.inj e).2 (by decide)
theorem rv_end {r s : Rt} {u : Tm} (hr : RR r) (hu : nm u = true) (h : rv r u = (s, 9)) : s = zero ∧ can r u false = true ∧ u ≠ r.o ∧ r.ep = 7 := by
  rcases rv_cases r u hr hu with ⟨e, _⟩ | ⟨e, h1, h2⟩ | ⟨_, _, e, _⟩
  · rw [h] at e; exact absurd (Prod.mk.inj e).2 (by decide)
  · rw [h] at e
    refine ⟨(Prod.mk.inj e).1, can_yes hr ?_, not_owner hr h1, h2⟩
    rcases h1 with h1 | h1
    · exact .inr (.inr ⟨rfl, h1⟩)
    · exact .inr (.inl h1)
  · rw [h] at e; exact absurd (Prod.mk.inj e).2 (by decide)
/-- Revoked behind a grant: as they were, one epoch later. -/
theorem rv_gr {r s : Rt} {u : Tm} {wr : Bool} (h : Granted r s u wr) (hu : nm u = true) : (r.ep = 7 ∧ rv s u = (zero, 9)) ∨ (r.ep < 7 ∧ rv s u = (⟨r.o, r.f, r.ep + 1, r.rs, r.ws⟩, 0)) := by
  have hin : u ∈ s.rs ∨ u ∈ s.ws := by
    rcases h.is with ⟨_, _, e⟩ | ⟨_, e, _⟩
    · exact .inr (by rw [e]; exact mem_ins.2 (.inl rfl))
    · exact .inl (by rw [e]; exact mem_ins.2 (.inl rfl))
  rcases rv_cases s u h.right hu with ⟨_, h1, h2⟩ | ⟨e, _, h2⟩ | ⟨_, h2, e, _⟩
  · rcases hin with h3 | h3
    · exact absurd h3 h1
    · exact absurd h3 h2
  · exact .inl ⟨by rw [← h.epoch]; exact h2, e⟩
  · refine .inr ⟨by rw [← h.epoch]; exact h2, ?_⟩
    rw [e, h.owner, h.file, h.epoch]
    rcases h.is with ⟨_, e1, e2⟩ | ⟨_, e1, e2⟩
    · rw [e1, e2, del_ins h.isnt.2.2, del_not h.isnt.2.1]
    · rw [e1, e2, del_ins h.isnt.2.1, del_not h.isnt.2.2]
theorem rt_eq {a b : Rt} (h1 : a.o = b.o) (h2 : a.f = b.f) (h3 : a.ep = b.ep) (h4 : a.rs = b.rs) (h5 : a.ws = b.ws) : a = b := by
  cases a; cases b; simp only at h1 h2 h3 h4 h5; subst h1; subst h2; subst h3; subst h4; subst h5; rfl
/-- Two that are granted, in either order. -/
theorem gr_comm {r s t p q : Rt} {u v : Tm} {x y : Bool} (hs : Granted r s u x) (ht : Granted s t v y) (hp : Granted r p v y) (hq : Granted p q u x) : t = q := by
  have ho : t.o = q.o := by rw [ht.owner, hs.owner, hq.owner, hp.owner]
  have a := hs.is
  have b := ht.is
  have c := hp.is
  have d := hq.is
  refine rt_eq ho (by rw [ht.file, hs.file, hq.file, hp.file]) (by rw [ht.epoch, hs.epoch, hq.epoch, hp.epoch]) ?_ ?_
  · refine lsd_eq (o := t.o) ht.right.2.2.2.2.1 (by rw [ho]; exact hq.right.2.2.2.2.1) fun z => ?_
    cases x <;> cases y <;> (simp only [Bool.false_eq_true, false_and, true_and, false_or, or_false, reduceCtorEq] at a b c d; rw [b.1, a.1, d.1, c.1]; try (simp only [mem_ins]; exact or_left_comm))
  · refine lsd_eq (o := t.o) ht.right.2.2.2.2.2.1 (by rw [ho]; exact hq.right.2.2.2.2.2.1) fun z => ?_
    cases x <;> cases y <;> (simp only [Bool.false_eq_true, false_and, true_and, false_or, or_false, reduceCtorEq] at a b c d; rw [b.2, a.2, d.2, c.2]; try (simp only [mem_ins]; exact or_left_comm))
/-- What an act comes to is right, if it does not err; else it is nothing. -/
theorem gr_right {r s : Rt} {u : Tm} {wr : Bool} {e : Int} (h : gr r u wr = (s, e)) : (RR r ∧ nm u = true ∧ RR s ∧ e = 0) ∨ (s = zero ∧ e ≠ 0) := by
  by_cases hr : RR r
  · by_cases hu : nm u = true
    · rcases gr_cases r u wr hr hu with ⟨e2, _⟩ | ⟨e2, _⟩ | ⟨_, _, e2, h3⟩
      · rw [h] at e2; obtain ⟨rfl, rfl⟩ := Prod.mk.inj e2; exact .inr ⟨rfl, by decide⟩
      · rw [h] at e2; obtain ⟨rfl, rfl⟩ := Prod.mk.inj e2; exact .inr ⟨rfl, by decide⟩
      · rw [h] at h3
        refine .inl ⟨hr, hu, h3, ?_⟩
        rcases e2 with ⟨_, e2⟩ | ⟨_, e2⟩ <;> (rw [h] at e2; exact (Prod.mk.inj e2).2)
    · unfold gr at h
      rw [if_neg (by simpa using hr), if_pos hu] at h
      obtain ⟨rfl, rfl⟩ := Prod.mk.inj h; exact .inr ⟨rfl, by decide⟩
  · unfold gr at h
    rw [if_pos hr] at h
    obtain ⟨rfl, rfl⟩ := Prod.mk.inj h; exact .inr ⟨rfl, by decide⟩
theorem rv_right {r s : Rt} {u : Tm} {e : Int} (h : rv r u = (s, e)) : (RR r ∧ nm u = true ∧ RR s ∧ e = 0) ∨ (s = zero ∧ e ≠ 0) := by
  by_cases hr : RR r
  · by_cases hu : nm u = true
    · rcases rv_cases r u hr hu with ⟨e2, _⟩ | ⟨e2, _⟩ | ⟨_, _, e2, h3⟩
      · rw [h] at e2; obtain ⟨rfl, rfl⟩ := Prod.mk.inj e2; exact .inr ⟨rfl, by decide⟩
      · rw [h] at e2; obtain ⟨rfl, rfl⟩ := Prod.mk.inj e2; exact .inr ⟨rfl, by decide⟩
      · rw [h] at h3
        refine .inl ⟨hr, hu, h3, ?_⟩
        rw [h] at e2; exact (Prod.mk.inj e2).2
    · unfold rv at h
      rw [if_neg (by simpa using hr), if_pos hu] at h
      obtain ⟨rfl, rfl⟩ := Prod.mk.inj h; exact .inr ⟨rfl, by decide⟩
  · unfold rv at h
    rw [if_pos hr] at h
    obtain ⟨rfl, rfl⟩ := Prod.mk.inj h; exact .inr ⟨rfl, by decide⟩
/-- Rights as bytes are not long. -/
theorem row_len {r : Rt} (h : RR r) : (rowR r).length ≤ 2000 := by
  obtain ⟨a1, a2, a3, a4, a5, a6, a7⟩ := h
  have h1 := (Txt.right_len a1).2
  have h2 := (Txt.right_len a2).2
  have h3 := (put_le (n := r.ep.toNat) (by omega)).2
  have h4 := putAll_small (by omega) (lsd_small a5)
  have h5 := putAll_small (by omega) (lsd_small a6)
  have e : rowR r = put 5 ++ (putText r.o ++ (putText r.f ++ (putText (put r.ep.toNat) ++ (putText (putAll r.rs) ++ (putText (putAll r.ws) ++ []))))) := rfl
  have p5 := (put_le (n := 5) (by decide)).2
  have p1 := (put_le (n := r.o.length) (by omega)).2
  have p2 := (put_le (n := r.f.length) (by omega)).2
  have p3 := (put_le (n := (put r.ep.toNat).length) (by omega)).2
  have p4 := (put_le (n := (putAll r.rs).length) (by omega)).2
  have p6 := (put_le (n := (putAll r.ws).length) (by omega)).2
  rw [e]
  simp only [List.length_append, putText_len, List.length_nil]
  omega
theorem putR_right {r : Rt} (h : RR r) : putR r = (rowR r, 0) := by unfold putR; rw [if_pos h]
theorem putR_wrong {r : Rt} (h : ¬ RR r) : putR r = ([], 1) := by unfold putR; rw [if_neg h]
theorem gr_wrong {r : Rt} (h : ¬ RR r) (u : Tm) (wr : Bool) : gr r u wr = (zero, 1) := by unfold gr; rw [if_pos h]
theorem rv_wrong {r : Rt} (h : ¬ RR r) (u : Tm) : rv r u = (zero, 1) := by unfold rv; rw [if_pos h]
end Go.Proofs.Ytjikepfgfbnheaa.Rig
