/-
  D2. By an AI agent.
-/
import Derived.Test.YtbdealddjonobaaGreatYZ
import Derived.Deep.QuietTactic
import Derived.BigQuiet
import Derived.Test.YtbdealddjonobaaGreatYD1
import Derived.Test.YtbdealddjonobaaGreatYT2
namespace Go.Proofs.YtbdealddjonobaaGreat.Draw
open Go.RowKit Wire Term Clo

abbrev DPred := World → Addr → (Nat → Prop) → Nat → Nat → Prop
structure Fr (X : Nat → Prop) (w w' : World) : Prop where
  os : w'.os = w.os
  tape : w'.tape = w.tape
  output : w'.output = w.output
  size : w.heap.size ≤ w'.heap.size
  block : ∀ b, b < w.heap.size → ¬ X b → w'.heap[b]? = w.heap[b]?
def SecretOK : Prop := ∀ (use who : ByteArray) (n : Nat) (w : World), use.size ≤ 140737488300000 → who.size ≤ 140737488300000 → use.size + who.size ≤ 140737488300000 → n < 18446744073709551616 →
  Calls Tryz.prog 45 #[.string use, .string who, .int .u64 (n : Int)] w fun e w' => Sr (secret use.data.toList who.data.toList n) e ∧ Below w.heap.size w w'
section
variable {D : DPred} {base : Nat} {w : World} {l : List (Addr × Nat × Nat)}
end
end Go.Proofs.YtbdealddjonobaaGreat.Draw

namespace Go.Proofs.YtbdealddjonobaaGreat.Draw
end Go.Proofs.YtbdealddjonobaaGreat.Draw

namespace Go.Proofs.YtbdealddjonobaaGreat.Draw
open Go.RowKit Wire Term Clo

def D0 (w : World) (a : Addr) (X : Nat → Prop) (s k : Nat) : Prop :=
  ∃ b c, a = ⟨b, 0, none⟩ ∧ X = (fun x => x = b ∨ x = c) ∧ b ≠ c ∧ w.heap[b]? = some (.cells #[.func (.func 86) #[] #[.pointer (some ⟨c, 0, none⟩)], .int .i64 (k : Int)] 133) ∧ w.heap[c]? = some (.cells #[.int .u64 (s : Int)] 22)
theorem D0.keep {w w' : World} {a : Addr} {X : Nat → Prop} {s k : Nat} (h : D0 w a X s k) (hx : ∀ b, X b → w'.heap[b]? = w.heap[b]?) : D0 w' a X s k := by
  obtain ⟨b, c, rfl, rfl, hne, hb, hc⟩ := h
  exact ⟨b, c, rfl, rfl, hne, (hx b (.inl rfl)).trans hb, (hx c (.inr rfl)).trans hc⟩
theorem two_setCell {w : World} {b : Nat} {v0 v1 u : Value} {t : TypeId} (h : w.heap[b]? = some (.cells #[v0, v1] t)) : (w.setCell ⟨b, 1, none⟩ u).heap[b]? = some (.cells #[v0, u] t) := by
  have hlt := (Array.getElem?_eq_some_iff.1 h).1
  have h' : w.heap[b] = .cells #[v0, v1] t := by simpa [Array.getElem?_eq_getElem hlt] using h
  show (w.heap.modify b _)[b]? = _
  rw [Array.getElem?_eq_getElem (by simpa using hlt), Array.getElem_modify_self, h']
  rfl
theorem fr_setCell {w : World} {X : Nat → Prop} {b j : Nat} {u : Value} (n : Nat) (hX : X b) : Fr X w ((w.drewN n).setCell ⟨b, j, none⟩ u) :=
  have hb := Below.setCell (Below.drewN' (Below.refl 0 w) n) (p := ⟨b, j, none⟩) (Nat.zero_le _) u
  ⟨hb.os, hb.tape, hb.output, hb.size, fun c _ hc => (Below.heap_setCell (w.drewN n) ⟨b, j, none⟩ u c (fun e => hc (by rw [e]; exact hX)))⟩
set_option maxHeartbeats 2000000 in
set_option maxRecDepth 1000000 in
theorem mix_any (n : Nat) (w : World) : Calls Tryz.prog 87 #[.int .u64 (n : Int)] w fun e w' => e = .returned (.int .u64 ((mix n : Nat) : Int)) ∧ w' = w := by
  obtain ⟨a, ha⟩ : ∃ a, mixA n = a := ⟨_, rfl⟩
  obtain ⟨b, hb⟩ : ∃ b, mixB a = b := ⟨_, rfl⟩
  obtain ⟨c, hc⟩ : ∃ c, mixC b = c := ⟨_, rfl⟩
  obtain ⟨d, hd⟩ : ∃ d, mixD c = d := ⟨_, rfl⟩
  have h1 : IntKind.u64.wrap ((n : Int) + 11400714819323198485) = (a : Int) := by rw [← ha]; exact mixA_eq
  have h2 : IntKind.u64.wrap (bits .xor .u64 (a : Int) ((a : Int) / 1073741824) * 13787848793156543929) = (b : Int) := by rw [← hb]; exact mixB_eq (by rw [← ha]; exact mixA_lt n)
  have h3 : IntKind.u64.wrap (bits .xor .u64 (b : Int) ((b : Int) / 134217728) * 10723151780598845931) = (c : Int) := by rw [← hc]; exact mixC_eq (by rw [← hb]; exact mixB_lt a)
  have h4 : bits .xor .u64 (c : Int) ((c : Int) / 2147483648) = (d : Int) := by rw [← hd]; exact mixD_eq (by rw [← hc]; exact mixC_lt b)
  have HM : Hid (mix n = d) := by show mixD (mixC (mixB (mixA n))) = d; rw [ha, hb, hc, hd]
  clear ha hb hc hd
  go_enter Tryz.func87, Tryz.ntmps87
  go_wp2
  go_ret
  exact ⟨by rw [HM.out]; rfl, rfl⟩
set_option maxHeartbeats 2000000 in
set_option maxRecDepth 1000000 in
theorem clo_any (s k c : Nat) (w : World) (h : w.cell? ⟨c, 0, none⟩ = some (.int .u64 (s : Int))) : Calls Tryz.prog 86 #[.int .u64 (k : Int), .pointer (some ⟨c, 0, none⟩)] w fun e w' => e = .returned (.int .u64 ((draw s k : Nat) : Int)) ∧ w' = w := by
  obtain ⟨m, hm⟩ : ∃ m, IntKind.u64.wrap ((k : Int) * 11400714819323198485) = m := ⟨_, rfl⟩
  obtain ⟨x, hx⟩ : ∃ x, (s + k * 11400714819323198485) % 18446744073709551616 = x := ⟨_, rfl⟩
  have h1 : IntKind.u64.wrap ((s : Int) + m) = (x : Int) := by rw [← hm, ← hx]; exact draw_eq
  have HX : Hid (draw s k = mix x) := by show mix _ = _; rw [hx]
  clear hx
  go_enter Tryz.func86, Tryz.ntmps86
  go_wp2_with (go_at_call 87; refine (mix_any x _).mono ?_; rintro e w1 ⟨rfl, rfl⟩)
  go_ret
  exact ⟨by rw [HX.out]; rfl, rfl⟩
set_option maxHeartbeats 2000000 in
set_option maxRecDepth 1000000 in
theorem new_ok (s : Nat) (w : World) : Calls Tryz.prog 44 #[.int .u64 (s : Int)] w fun e w' => ∃ (a : Addr) (X : Nat → Prop), e = .returned (.pointer (some a)) ∧ D0 w' a X s 0 ∧ (∀ b, X b → w.heap.size ≤ b) ∧ Below w.heap.size w w' := by
  have hmf : ∀ (fn : Fn) (first cap : Array Value) (w : World), (Instr.makeFunc fn first cap).run Tryz.prog w = .ok (.func fn first cap) w := fun _ _ _ _ => rfl
  go_enter Tryz.func44, Tryz.ntmps44
  go_wp2
  go_ret
  refine ⟨⟨w.heap.size + 1, 0, none⟩, fun x => x = w.heap.size + 1 ∨ x = w.heap.size, rfl, ⟨_, _, rfl, rfl, by omega, ?_, ?_⟩, ?_, ((Below.refl _ _).alloc zl _).alloc (by simp) _⟩
  · show ((w.heap.push _).push _)[w.heap.size + 1]? = _
    rw [show w.heap.size + 1 = (w.heap.push (.cells #[.int .u64 (s : Int)] 22)).size by simp, Array.getElem?_push_size]
    rfl
  · show ((w.heap.push _).push _)[w.heap.size]? = _
    rw [Array.getElem?_push_lt (by simp), ← Array.getElem?_eq_getElem, Array.getElem?_push_size]
  · rintro b (rfl | rfl)
    · exact Nat.le_succ _
    · exact Nat.le_refl _
set_option maxHeartbeats 2000000 in
set_option maxRecDepth 1000000 in
theorem many_ok (a : Addr) (X : Nat → Prop) (s k : Nat) (w : World) (h : D0 w a X s k) : Calls Tryz.prog 53 #[.pointer (some a)] w fun e w' => e = .returned (.int .i64 (k : Int)) ∧ Below w.heap.size w w' := by
  obtain ⟨b, c, rfl, rfl, hne, hb, hc⟩ := h
  have c1 : w.cell? ⟨b, 1, none⟩ = some (.int .i64 (k : Int)) := by unfold World.cell?; simp only [hb]; rfl
  clear hb hc
  go_enter Tryz.func53, Tryz.ntmps53
  go_wp2
  go_ret
  exact ⟨rfl, Below.refl _ _⟩
set_option maxHeartbeats 4000000 in
set_option maxRecDepth 1000000 in
theorem secret_any (use who : ByteArray) (n : Nat) (w : World) (hu : use.size ≤ 140737488300000) (hw : who.size ≤ 140737488300000) (huw : use.size + who.size ≤ 140737488300000) (hn : n < 18446744073709551616) :
    Calls Tryz.prog 45 #[.string use, .string who, .int .u64 (n : Int)] w fun e w' => Sr (secret use.data.toList who.data.toList n) e ∧ Below w.heap.size w w' := by
  by_cases hl : (use.size : Int) + (who.size : Int) ≤ 4000
  case neg =>
    have hno : ¬ right (txt use.data.toList who.data.toList) = true := fun h => by
      have h1 := (right_len h).2
      have h2 : (txt use.data.toList who.data.toList).length = 1 + (putText (use.data.toList ++ 58 :: who.data.toList)).length := by unfold txt; rw [List.length_cons]; omega
      rw [putText_len, List.length_append, List.length_cons, ← Lib.size_eq, ← Lib.size_eq] at h2
      omega
    rw [secret_no hn (fun h => hno h.1)]
    clear hno hn
    go_enter Tryz.func45, Tryz.ntmps45
    go_wp2
    go_ret2
    exact ⟨sr_nil _, Below.refl _ _⟩
  obtain ⟨UC, huc⟩ : ∃ UC, use ++ (ByteArray.mk #[58]) = UC := ⟨_, rfl⟩
  obtain ⟨X, hX⟩ : ∃ X, UC ++ who = X := ⟨_, rfl⟩
  obtain ⟨hXd, hucz, hXz⟩ := colon_text use who huc hX
  have hucz1 : UC.size ≤ 140737488300001 := by omega
  have hXz1 : X.size ≤ 140737488355000 := by omega
  have HC := zh (t_OfText X w hXz1)
  rw [hXd, ofText_eq] at HC
  clear hXd hucz hXz hXz1
  by_cases h1 : right (txt use.data.toList who.data.toList) = true
  · have hz1 := (right_len h1).2
    have HC2 : Hid (∀ (T A : ByteArray) (w : World), T.data.toList = txt use.data.toList who.data.toList → A.data.toList = ofAtom n → Calls Tryz.prog 88 #[.string T, .string A] w fun e w' => Sr (made (prs use.data.toList who.data.toList n)) e ∧ Below w.heap.size w w') := by
      intro T A w hT hA
      have := t_OfPair T A w (by rw [Lib.size_eq, hT]; omega) (by rw [Lib.size_eq, hA]; have := (right_len (atom_ok hn)).2; omega)
      rw [hT, hA, two_eq hn h1] at this
      exact this
    rw [made_yes h1] at HC
    by_cases h2 : right (prs use.data.toList who.data.toList n) = true
    · have HS : secret use.data.toList who.data.toList n = made (sech use.data.toList who.data.toList n) := by
        by_cases h3 : right (sech use.data.toList who.data.toList n) = true
        · rw [secret_ok hn h1 h2 h3, made_yes h3]
        · rw [secret_no hn (fun h => h3 h.2.2), made_no h3]
      have HC3 : Hid (∀ (T : ByteArray) (w : World), T.data.toList = prs use.data.toList who.data.toList n → Calls Tryz.prog 90 #[.string T] w fun e w' => Sr (made (sech use.data.toList who.data.toList n)) e ∧ Below w.heap.size w w') := by
        intro T w hT
        have := t_OfHash T w (by rw [Lib.size_eq, hT]; have := (right_len h2).2; omega)
        rw [hT, one_eq h2] at this
        exact this
      rw [made_yes h2] at HC2
      rw [HS]
      obtain ⟨x, f, hx⟩ : ∃ x f, made (sech use.data.toList who.data.toList n) = (x, f) := ⟨_, _, rfl⟩
      rw [hx] at HC3 ⊢
      have HN := zh hn
      clear HS h1 h2 hz1 hx hn
      go_enter Tryz.func45, Tryz.ntmps45
      go_wp2_with fail
      refine HC.out.mono ?_
      rintro e w1 ⟨⟨T, hT, rfl⟩, hb1⟩
      have HB1 := zh hb1
      have HT := zh hT
      clear hb1 hT
      dsimp only
      go_wp2_with fail
      refine (t_OfAtom n _ HN.out).mono ?_
      rintro e w2 ⟨⟨A, hA, rfl⟩, hb2⟩
      have HB2 := zh (HB1.out.trans (hb2.mono HB1.out.size))
      have HA := zh hA
      clear hb2 hA
      dsimp only
      go_wp2_with fail
      refine (HC2.out T A _ HT.out HA.out).mono ?_
      rintro e w3 ⟨⟨P, hP, rfl⟩, hb3⟩
      have HB3 := zh (HB2.out.trans (hb3.mono HB2.out.size))
      have HP := zh hP
      clear hb3 hP
      dsimp only
      go_wp2_with fail
      refine (HC3.out P _ HP.out).mono ?_
      rintro e w4 ⟨⟨H, hH, rfl⟩, hb4⟩
      have HB4 := zh (HB3.out.trans (hb4.mono HB3.out.size))
      have HH := zh hH
      clear hb4 hH
      dsimp only
      go_wp2
      go_ret2
      exact ⟨⟨H, HH.out, rfl⟩, HB4.out⟩
    · rw [secret_no hn (fun h => h2 h.2.1)]
      rw [made_no h2] at HC2
      have HN := zh hn
      clear h1 h2 hz1 hn
      go_enter Tryz.func45, Tryz.ntmps45
      go_wp2_with fail
      refine HC.out.mono ?_
      rintro e w1 ⟨⟨T, hT, rfl⟩, hb1⟩
      have HB1 := zh hb1
      have HT := zh hT
      clear hb1 hT
      dsimp only
      go_wp2_with fail
      refine (t_OfAtom n _ HN.out).mono ?_
      rintro e w2 ⟨⟨A, hA, rfl⟩, hb2⟩
      have HB2 := zh (HB1.out.trans (hb2.mono HB1.out.size))
      have HA := zh hA
      clear hb2 hA
      dsimp only
      go_wp2_with fail
      refine (HC2.out T A _ HT.out HA.out).mono ?_
      rintro e w3 ⟨⟨P, hP, rfl⟩, hb3⟩
      have HB3 := zh (HB2.out.trans (hb3.mono HB2.out.size))
      clear hb3 hP
      dsimp only
      go_wp2
      go_ret2
      exact ⟨sr_nil _, HB3.out⟩
  · rw [secret_no hn (fun h => h1 h.1)]
    rw [made_no h1] at HC
    clear h1 hn
    go_enter Tryz.func45, Tryz.ntmps45
    go_wp2_with fail
    refine HC.out.mono ?_
    rintro e w1 ⟨⟨T, hT, rfl⟩, hb1⟩
    have HB1 := zh hb1
    clear hb1 hT
    dsimp only
    go_wp2
    go_ret2
    exact ⟨sr_nil _, HB1.out⟩
theorem secretok : SecretOK := fun use who n w h1 h2 h3 hn => secret_any use who n w h1 h2 h3 hn
end Go.Proofs.YtbdealddjonobaaGreat.Draw

