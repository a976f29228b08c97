/-
  CONTRACT of the laws' own helper shown (letterlocklaw7), over what package rights is held to: true. By an AI agent; no person has read it.
-/
import Derived.Test.YtjikepfgfbnheaaGSpec
namespace Go.Proofs.Ytjikepfgfbnheaa.Rig
open Go.RowKit Wire

def annaB : ByteArray := ⟨#[97, 110, 110, 97]⟩
def notesB : ByteArray := ⟨#[110, 111, 116, 101, 115]⟩
def benB : ByteArray := ⟨#[98, 101, 110]⟩
def r0 : Rt := ⟨annaB.data.toList, notesB.data.toList, 0, [], []⟩
def r1 : Rt := ⟨annaB.data.toList, notesB.data.toList, 0, [benB.data.toList], []⟩
theorem new0 : new annaB.data.toList notesB.data.toList = (r0, 0) := (new_ok (by decide +kernel) (by decide +kernel)).1
theorem rr0 : RR r0 := by decide +kernel
theorem rr1 : RR r1 := by decide +kernel
theorem gr0 : gr r0 benB.data.toList false = (r1, 0) := by
  unfold gr
  rw [if_neg (by simpa using rr0), if_neg (by decide +kernel), if_neg (by decide +kernel), if_neg (by decide)]
  rfl
theorem can1 : can r1 benB.data.toList false = true := by decide +kernel
theorem can2 : can r1 benB.data.toList true = false := by decide +kernel
theorem can3 : can r1 annaB.data.toList true = true := by decide +kernel
set_option maxHeartbeats 4000000 in
set_option maxRecDepth 1000000 in
theorem shown7_any (NO : NewOK) (GO : GrantOK) (CO : CanOK) (w : World) : Calls Try.prog 10 #[] w fun e w' => e = .returned (.bool true) ∧ Below w.heap.size w w' := by
  have HN : Hid (∀ w, Calls Try.prog 20 #[.string ⟨#[97, 110, 110, 97]⟩, .string ⟨#[110, 111, 116, 101, 115]⟩] w fun e w' => Re (Off []) (r0, 0) e w' ∧ Below w.heap.size w w') := fun w => by
    have h := NO [] annaB notesB w gs_nil (by decide) (by decide)
    rw [new0] at h
    exact h
  have HG : Hid (∀ v w gs, (∀ g ∈ gs, g < w.heap.size) → IsX (Off gs) w v r0 → Calls Try.prog 12 #[v, .string ⟨#[98, 101, 110]⟩, .bool false] w fun e w' => Re (Off gs) (r1, 0) e w' ∧ Below w.heap.size w w') := fun v w gs hg hx => by
    have h := GO gs v r0 benB false w hg hx (few_right rr0) (by decide)
    rw [gr0] at h
    exact h
  have HC1 : Hid (∀ v w, IsR w v r1 → Calls Try.prog 25 #[v, .string ⟨#[98, 101, 110]⟩, .bool false] w fun e w' => e = .returned (.bool true) ∧ Below w.heap.size w w') := fun v w hx => by
    have h := CO v r1 benB false w hx (few_right rr1) (by decide)
    rw [can1] at h
    exact h
  have HC2 : Hid (∀ v w, IsR w v r1 → Calls Try.prog 25 #[v, .string ⟨#[98, 101, 110]⟩, .bool true] w fun e w' => e = .returned (.bool false) ∧ Below w.heap.size w w') := fun v w hx => by
    have h := CO v r1 benB true w hx (few_right rr1) (by decide)
    rw [can2] at h
    exact h
  have HC3 : Hid (∀ v w, IsR w v r1 → Calls Try.prog 25 #[v, .string ⟨#[97, 110, 110, 97]⟩, .bool true] w fun e w' => e = .returned (.bool true) ∧ Below w.heap.size w w') := fun v w hx => by
    have h := CO v r1 annaB true w hx (few_right rr1) (by decide)
    rw [can3] at h
    exact h
  go_enter Try.func10, Try.ntmps10
  go_wp2_with fail
  with_reducible refine (HN.out _).mono ?_
  rintro e1 w1 ⟨⟨v1, hx1, rfl⟩, hb1⟩
  obtain ⟨o1, f1, p1, A1, n1, c1, B1, m1, d1, rfl, hp1, hn1, hm1, ho1, hf1, hx1⟩ := isX_lit hx1
  have HB1 := Lib.hid hb1
  have HX1 := Lib.hid hx1
  have HO1 := Lib.hid ho1
  have HF1 := Lib.hid hf1
  have HP1 := Lib.hid hp1
  have HN1 := Lib.hid hn1
  have HM1 := Lib.hid hm1
  clear hb1 hx1 ho1 hf1 hp1 hn1 hm1
  dsimp only at HX1 HO1 HF1 HP1 HN1 HM1 ⊢
  go_wp2_with fail
  obtain ⟨ga, hga⟩ : ∃ g, w1.heap.size = g := ⟨_, rfl⟩
  have hh2 := hold_alloc (t := 24) HX1.out
  have hba2 := al w1 (.cells #[.string o1, .string f1, .int .i64 p1, .slice A1 n1 c1, .slice B1 m1 d1] 24)
  generalize w1.alloc (.cells #[.string o1, .string f1, .int .i64 p1, .slice A1 n1 c1, .slice B1 m1 d1] 24) = w2 at hh2 hba2 ⊢
  rw [hga] at hh2 ⊢
  have HHa := Lib.hid hh2
  have HB2 := Lib.hid (Bel.call HB1.out hba2)
  clear hh2 hba2 hga
  go_wp2_with fail
  with_reducible refine (HG.out _ _ _ (gs_cons HHa.out.lt gs_nil) HHa.out.isX).mono ?_
  rintro e3 w3 ⟨⟨v3, hx3, rfl⟩, hb3⟩
  obtain ⟨o3, f3, p3, A3, n3, c3, B3, m3, d3, rfl, hp3, hn3, hm3, ho3, hf3, hx3⟩ := isX_lit hx3
  have HB3 := Lib.hid (Bel.call HB2.out hb3)
  replace HHa := Lib.hid (HHa.out.call hb3)
  have HX3 := Lib.hid hx3
  have HO3 := Lib.hid ho3
  have HF3 := Lib.hid hf3
  have HP3 := Lib.hid hp3
  have HN3 := Lib.hid hn3
  have HM3 := Lib.hid hm3
  clear hb3 hx3 ho3 hf3 hp3 hn3 hm3
  dsimp only at HX3 HO3 HF3 HP3 HN3 HM3 ⊢
  go_wp2_with fail
  obtain ⟨gb, hgb⟩ : ∃ g, w3.heap.size = g := ⟨_, rfl⟩
  have hh4 := hold_alloc (t := 24) HX3.out
  have hba4 := al w3 (.cells #[.string o3, .string f3, .int .i64 p3, .slice A3 n3 c3, .slice B3 m3 d3] 24)
  have hna4 := HHa.out.new (ob := (.cells #[.string o3, .string f3, .int .i64 p3, .slice A3 n3 c3, .slice B3 m3 d3] 24))
  generalize w3.alloc (.cells #[.string o3, .string f3, .int .i64 p3, .slice A3 n3 c3, .slice B3 m3 d3] 24) = w4 at hh4 hba4 hna4 ⊢
  rw [hgb] at hh4 hna4 ⊢
  replace HHa := Lib.hid hna4
  have HHb := Lib.hid hh4
  have HB4 := Lib.hid (Bel.call HB3.out hba4)
  clear hh4 hba4 hgb hna4
  go_wp2_with fail
  with_reducible refine (HC1.out _ _ HHb.out.isR).mono ?_
  rintro e5 w5 ⟨rfl, hb5⟩
  have HB5 := Lib.hid (Bel.call HB4.out hb5)
  replace HHa := Lib.hid (HHa.out.call hb5)
  replace HHb := Lib.hid (HHb.out.call hb5)
  clear hb5
  dsimp only
  obtain ⟨⟨bc0, bc1, bc2, bc3, bc4, _⟩, _, _⟩ := HHb.out
  go_wp2_with fail
  clear bc0 bc1 bc2 bc3 bc4
  go_wp2_with fail
  with_reducible refine (HC2.out _ _ HHb.out.isR).mono ?_
  rintro e6 w6 ⟨rfl, hb6⟩
  have HB6 := Lib.hid (Bel.call HB5.out hb6)
  replace HHa := Lib.hid (HHa.out.call hb6)
  replace HHb := Lib.hid (HHb.out.call hb6)
  clear hb6
  dsimp only
  obtain ⟨⟨bc0, bc1, bc2, bc3, bc4, _⟩, _, _⟩ := HHb.out
  go_wp2_with fail
  clear bc0 bc1 bc2 bc3 bc4
  go_wp2_with fail
  with_reducible refine (HC3.out _ _ HHb.out.isR).mono ?_
  rintro e7 w7 ⟨rfl, hb7⟩
  have HB7 := Lib.hid (Bel.call HB6.out hb7)
  replace HHa := Lib.hid (HHa.out.call hb7)
  replace HHb := Lib.hid (HHb.out.call hb7)
  clear hb7
  dsimp only
  obtain ⟨⟨bc0, bc1, bc2, bc3, bc4, _⟩, _, _⟩ := HHb.out
  go_wp2
  go_ret
  exact ⟨rfl, HB7.out⟩
end Go.Proofs.Ytjikepfgfbnheaa.Rig
