/-
  THE LANDED CODE's STORE DOES WHAT A STORE MUST DO (package store): Versions, List; all seven of this seat. By an AI agent; no person has read it.
-/
import Derived.Test.YtamkepfhlfeiiaaSTPutA
import Derived.Test.YtamkepfhlfeiiaaSTKeysA
namespace Go.Proofs.Ytamkepfhlfeiiaa.Sto
open Go Go.RowKit Go.Sort Wire

set_option linter.unusedVariables false
set_option linter.unusedSimpArgs false
set_option maxHeartbeats 4000000 in
set_option maxRecDepth 1000000 in
theorem vers_c (a : Addr) (X : Nat → Prop) (s : Stt) (K : ByteArray) (w : World) (h : DS w a X s) (hf : Fine s) (hK : K.size ≤ 140737488351232) : Calls Try.prog 19 #[.pointer (some a), .string K] w fun e w' => Row w w' (s.ver K.data.toList) e ∧ Below w.heap.size w w' := by
  have hmany := hf.many K.data.toList
  have hfew := hf.few
  obtain ⟨g, me, mt, V, rb, rfl, h, _⟩ := h
  have c0 := h.c0
  obtain ⟨A, c, ys, hys, hrv, hown, hA⟩ := h.row K.data.toList
  have hl := h.em.look Try.underlying64 (zero_row w) hK
  unfold rowV at hrv
  rw [hrv] at hl
  have hyl : ys.length ≤ 2000 := by
    have : (bl ys).length = ys.length := by simp [bl]
    rw [hys] at this; omega
  have HYS := Lib.hid hys
  have HB := Lib.hid (Below.refl w.heap.size w)
  have HC : Hid (Calls Try.prog 35 #[.slice A ys.length c] w fun e w' => Row w w' (bl ys) e ∧ Below w.heap.size w w') := by
    rcases List.eq_nil_or_concat ys with rfl | ⟨y0, yl, hyy⟩
    · by_cases hA0 : A = none
      · subst hA0
        refine (Try.slices_Clone_string_nil 0 c w).mono ?_
        rintro e w1 ⟨rfl, rfl⟩
        exact ⟨⟨_, [], rfl, World.ownsRow_nil _ _ _ _, rfl⟩, Below.refl _ _⟩
      · obtain ⟨p, rfl⟩ := Option.ne_none_iff_exists'.1 hA0
        obtain ⟨b, off, q⟩ := p
        rcases hown.2 with ⟨e1, _⟩ | ⟨x, cap, cur, e1, _⟩
        · cases e1
        · injection e1 with e1 _ _
          injection e1 with e1
          injection e1 with e1 e2 e3
          subst e1 e2 e3
          refine (Try.slices_Clone_string b 0 0 c [] w (Nat.le_refl _) (by omega) (fun j hj => by simp at hj)).mono ?_
          rintro e w1 ⟨v', rfl, h1, _, h3⟩
          exact ⟨⟨v', [], rfl, h1, rfl⟩, h3⟩
    · have hpos : 0 < ys.length := by rw [hyy]; simp
      obtain ⟨hr, _, _⟩ := sreads_own hown
      rcases hown.2 with ⟨_, h0⟩ | ⟨x, cap, cur, e1, _⟩
      · omega
      · injection e1 with e1 _ _
        subst e1
        refine (Try.slices_Clone_string x 0 ys.length c ys w (Nat.le_refl _) (by omega) (fun j hj => ?_)).mono ?_
        · obtain ⟨b, off, e, _, hc⟩ := hr j hj
          injection e with e
          injection e with e1 e2 _
          subst e1 e2
          exact hc
        · rintro e w1 ⟨v', rfl, h1, _, h3⟩
          rw [List.take_length] at h1
          exact ⟨⟨v', ys, rfl, h1, rfl⟩, h3⟩
  clear h hys hrv hown hA hmany hfew hf
  go_enter Try.func19, Try.ntmps19
  go_wp2_with fail
  refine HC.out.mono ?_
  rintro e w1 ⟨⟨v, zs, h1, h2, rfl⟩, h3⟩
  have H1 := Lib.hid h1
  have H2 := Lib.hid h2
  have H3 := Lib.hid h3
  clear h1 h2 h3
  dsimp only
  go_wp2
  go_ret
  exact ⟨⟨v, zs, H1.out.trans HYS.out, H2.out, rfl⟩, H3.out⟩
set_option maxHeartbeats 4000000 in
set_option maxRecDepth 1000000 in
theorem list_c (a : Addr) (X : Nat → Prop) (s : Stt) (K : ByteArray) (w : World) (h : DS w a X s) (hf : Fine s) : Calls Try.prog 24 #[.pointer (some a), .string K] w fun e w' => (∃ l, Lists s K.data.toList l ∧ Row w w' l e) ∧ Below w.heap.size w w' := by
  have hfew := hf.few
  obtain ⟨g, me, mt, V, rb, rfl, h, _⟩ := h
  have c1 := h.c1
  have HC := Lib.hid (keys_c1 mt s.n s.is (lastV s) K w h.tm hfew)
  clear h hfew hf
  go_enter Try.func24, Try.ntmps24
  go_wp2_with fail
  refine HC.out.mono ?_
  rintro e w1 ⟨⟨l, hl, v, zs, h1, h2, rfl⟩, h3⟩
  have H0 : Hid (Lists s K.data.toList l) := hl
  have H1 := Lib.hid h1
  have H2 := Lib.hid h2
  have H3 := Lib.hid h3
  clear hl h1 h2 h3
  dsimp only
  go_wp2
  go_ret
  exact ⟨⟨l, H0.out, v, zs, H1.out, H2.out, rfl⟩, H3.out⟩
theorem storeok : StoreOK DS where
  old := ds_old
  keep := ds_keep
  new := new_c
  put a X s K B w h hf hK hB := put_c a X s K B w h hf hK hB
  del a X s K w h _ hK := del_c a X s K w h hK
  get a X s K w h _ hK := (get_c a X s K w h hK).mono fun e w' hh => ⟨hh.1, by rw [hh.2]; exact Below.refl _ _⟩
  list a X s K w h hf _ := list_c a X s K w h hf
  vers a X s K w h hf hK := vers_c a X s K w h hf hK
  puts a X s w h _ := puts_c a X s w h
end Go.Proofs.Ytamkepfhlfeiiaa.Sto
