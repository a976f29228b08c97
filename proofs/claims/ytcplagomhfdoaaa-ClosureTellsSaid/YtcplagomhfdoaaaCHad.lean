/-
  CONTRACT of the document's had (letterlockref4). By an AI agent; no person has read it.
-/
import Derived.Test.YtcplagomhfdoaaaCRef2
import Derived.Test.YtcplagomhfdoaaaCSubs
import Derived.Deep.AppendLies
namespace Go.Proofs.Ytcplagomhfdoaaa.Clo
open Go.RowKit Wire Term

theorem sreads_grown {w w' : World} {row : Option Nat} {A : Option Addr} {gs : List ByteArray} (h : SReads w A gs) (hg : w.grownBy w' row) (hne : ∀ b off, A = some ⟨b, off, none⟩ → some b ≠ row) : SReads w' A gs := fun j hj => by
  obtain ⟨b, off, e, hlt, hc⟩ := h j hj
  exact ⟨b, off, e, Nat.lt_of_lt_of_le hlt hg.size, by rw [hg.cell_far ⟨b, off + j, none⟩ hlt (hne b off e)]; exact hc⟩
/-- A row of one's own: each once, and had. -/
def Got (w : World) (held : List (List UInt8)) (v : Value) (wr : World) (ys : List ByteArray) : Prop :=
  wr.ownsRow w.heap.size 9 1 v ys.length (sv ys) ∧ (bl ys).Nodup ∧ (∀ z ∈ bl ys, Had held z) ∧ Below w.heap.size w wr
def flagOf : Value → Nat
  | .bool true => 1
  | _ => 0
def lenOf : Value → Nat
  | .slice _ n _ => n
  | _ => 0
/-- What had answers: a row of one's own. -/
def HdE (w : World) (held : List (List UInt8)) (e : Ending) (w' : World) : Prop := ∃ (v : Value) (ys : List ByteArray), w'.ownsRow w.heap.size 9 1 v ys.length (sv ys) ∧ (bl ys).Nodup ∧ (∀ z, z ∈ bl ys ↔ Had held z) ∧ e = .returned v
theorem got_add {w : World} {held : List (List UInt8)} {v v' : Value} {wr w' : World} {ys : List ByteArray} {y : ByteArray} (h : Got w held v wr ys) (hn : y.data.toList ∉ bl ys) (hh : Had held y.data.toList)
    (ho : w'.ownsRow w.heap.size 9 1 v' (ys.length + 1) (sv ys ++ [.string y])) (hb : Below w.heap.size w w') : Got w held v' w' (ys ++ [y]) := by
  refine ⟨by simpa [sv] using ho, ?_, fun z hz => ?_, hb⟩
  · rw [bl_app]
    refine List.nodup_append.2 ⟨h.2.1, by simp [bl], fun a ha b hb e => ?_⟩
    have hb2 : b = y.data.toList := by simpa [bl] using hb
    subst e
    rw [hb2] at ha
    exact hn ha
  · rw [bl_app] at hz
    rcases List.mem_append.1 hz with h1 | h1
    · exact h.2.2.1 z h1
    · have : z = y.data.toList := by simpa [bl] using h1
      rw [this]; exact hh
theorem mem_app {ys : List ByteArray} {y : ByteArray} {z : List UInt8} : z ∈ bl (ys ++ [y]) ↔ z ∈ bl ys ∨ z = y.data.toList := by
  rw [bl_app]
  simp [bl]
theorem got_len {w : World} {held : List (List UInt8)} {v : Value} {wr : World} {ys : List ByteArray} (hr : ∀ x ∈ held, right x = true) (h : Got w held v wr ys) : ys.length ≤ held.flatten.length := by
  have := had_many hr h.2.1 h.2.2.1
  rwa [bl_len] at this
/-- A row of one's own that lies apart from another. -/
def Off (v : Value) (A : Option Addr) : Prop := ∀ b off, A = some ⟨b, off, none⟩ → v.ownBlock ≠ some b
theorem off_start {w wr : World} {held : List (List UInt8)} {v : Value} {ys : List ByteArray} {A : Option Addr} (h : Got w held v wr ys) (hf : ∀ b off, A = some ⟨b, off, none⟩ → wr.heap.size ≤ b) : Off v A := fun b off e h2 => by
  have h3 := (h.1.lt b h2).2
  have h4 := hf b off e
  omega
theorem off_step {v : Value} {A : Option Addr} {w : World} {gs : List ByteArray} {g n c H k : Nat} (h : Off v A) (hr : SReads w A gs) (hk : k < gs.length) (hH : w.heap.size ≤ H) (hat : v.ownBlock = some g ∨ g = H) : Off (.slice (some ⟨g, 0, none⟩) n c) A := fun b off e h2 => by
  have h2 : g = b := Option.some.inj h2
  subst h2
  rcases hat with h3 | h3
  · exact h g off e h3
  · obtain ⟨b', off', e', hlt, _⟩ := hr k hk
    rw [e] at e'
    injection e' with e'
    injection e' with e1 e2
    omega
theorem got_call {w wr w2 : World} {held : List (List UInt8)} {v : Value} {ys : List ByteArray} (h : Got w held v wr ys) (hb : Below wr.heap.size wr w2) : Got w held v w2 ys :=
  ⟨own_below h.1 hb (Nat.le_refl _), h.2.1, h.2.2.1, Bel.call h.2.2.2 hb⟩
set_option maxHeartbeats 16000000 in
set_option maxRecDepth 1000000 in
theorem had_any (a : Option Addr) (c : Nat) (xs : List ByteArray) (w : World) (hr : SReads w a xs) (hright : ∀ z ∈ bl xs, right z = true) (hn : xs.length ≤ 100000) (hsum : (bl xs).flatten.length ≤ 1000000) :
    Calls Try.prog 38 #[.slice a xs.length c] w fun e w' => HdE w (bl xs) e w' ∧ Below w.heap.size w w' := by
  have HR := Lib.hid hr
  have HRT := Lib.hid hright
  have HLEN : Hid (∀ v wr ys, Got w (bl xs) v wr ys → ys.length ≤ (bl xs).flatten.length) := fun v wr ys h => got_len hright h
  obtain ⟨N, hN⟩ : ∃ N, (bl xs).flatten.length = N := ⟨_, rfl⟩
  rw [hN] at hsum HLEN
  obtain ⟨i0, hi0, hz0, hz1, hz2⟩ := info_parts str_info
  clear hr hright hN
  go_enter Try.func38, Try.ntmps38
  go_wp2_with fail
  have hst : Got w (bl xs) (.slice none 0 0) w [] := ⟨World.ownsRow_nil _ _ _ _, by simp [bl], fun z hz => absurd hz List.not_mem_nil, Below.refl _ _⟩
  have HST := Lib.hid hst
  clear hst
  go_loopw [3, 4] (fun v i wr => ∃ (k : Nat) (ys : List ByteArray), k ≤ xs.length ∧ i = .int .i64 k ∧ Hid (Got w (bl xs) v wr ys) ∧ Hid (∀ z ∈ bl (xs.take k), z ∈ bl ys)) (fun _ i _ => xs.length - (intOf i).toNat)
  case atStart => exact ⟨0, [], Nat.zero_le _, rfl, HST, by show ∀ z ∈ bl (xs.take 0), _; simp [bl]⟩
  case round =>
    obtain ⟨k, ys, hk, rfl, HG, HA⟩ := hrel
    clear HST
    have hyN := HLEN.out _ _ _ HG.out
    obtain ⟨A, cc, rfl⟩ := own_value HG.out.1
    by_cases hlt : k < xs.length
    · obtain ⟨b, off, rfl, hblt, hcell⟩ := HR.out k hlt
      obtain ⟨y, hy⟩ : ∃ y, xs.getD k ByteArray.empty = y := ⟨_, rfl⟩
      rw [hy] at hcell
      rw [← HG.out.2.2.2.cell (p := ⟨b, off + k, none⟩) hblt] at hcell
      have HY := Lib.hid hy
      have HYM : Hid (Had (bl xs) y.data.toList) := had_held (List.mem_map.2 ⟨y, getD_mem hlt hy, rfl⟩)
      have HSTEP : Hid (∀ zs : List ByteArray, (∀ z ∈ bl ys, z ∈ bl zs) → y.data.toList ∈ bl zs → ∀ z ∈ bl (xs.take (k + 1)), z ∈ bl zs) := fun zs h1 h2 z hz => by
        have e : xs[k] = y := by rw [← hy]; simp [List.getD, hlt]
        rw [List.take_succ_eq_append_getElem hlt, e] at hz
        rcases mem_app.1 hz with h | h
        · exact h1 z (HA.out z h)
        · rw [h]; exact h2
      clear hy
      by_cases hm : y.data.toList ∈ bl ys
      · have HM := Lib.hid hm
        clear hm
        go_wp2_with (go_at_call 57; refine (has_any A cc ys y _ (sreads_own HG.out.1).1 (by omega)).mono ?_; rw [show decide (y.data.toList ∈ bl ys) = true from decide_eq_true HM.out]; rintro e w1 ⟨rfl, rfl⟩)
        go_roundw
        case rel => exact ⟨k + 1, ys, by omega, by go_num, HG, HSTEP.out ys (fun _ h => h) HM.out⟩
        case measure => simp [intOf]; omega
      · have HM := Lib.hid hm
        clear hm
        go_wp2_with (first
          | (go_at_call 57; refine (has_any A cc ys y _ (sreads_own HG.out.1).1 (by omega)).mono ?_; rw [show decide (y.data.toList ∈ bl ys) = false from decide_eq_false HM.out]; rintro e w1 ⟨rfl, rfl⟩)
          | (at_builtin
             refine wpList_append_lies _ rfl _ _ _ rfl w.heap.size 9 i0 _ 1 16 Try.underlying22 hi0 hz0 hz1 hz2 rfl (by decide) _ ys.length (sv ys) rfl (HG.out.1.alloc _) _ 1 1 [.string y] rfl rfl (lit_cells _ _ _) (sv_one [y]) (by decide) (by simp only [maxLen]; omega) (by omega) ?h6 _ rfl ?_
             case h6 =>
               have h := HG.out.2.2.2.size
               simp only [World.alloc, Array.size_push]
               exact Nat.le_succ_of_le h
             intro gg cap2 w6 hown hgrow hat hlt6
             have HO6 := Lib.hid hown
             have HG6 := Lib.hid hgrow
             have HAT6 := Lib.hid hat
             clear hown hgrow hat))
        go_roundw
        case rel =>
          refine ⟨k + 1, ys ++ [y], by omega, by go_num, ?_, HSTEP.out _ (fun z h => mem_app.2 (.inl h)) (mem_app.2 (.inr rfl))⟩
          exact got_add HG.out HM.out HYM.out HO6.out ((HG.out.2.2.2.alloc HG.out.2.2.2.size _).grown HG6.out (by
            have := HG.out.2.2.2.size
            simp only [World.alloc, Array.size_push]
            omega) fun g hg => (HG.out.1.lt g hg).1)
        case measure => simp [intOf]; omega
    · obtain rfl : k = xs.length := by omega
      have hall := HA.out
      rw [List.take_length] at hall
      have HIN := Lib.hid hall
      clear hall HA
      go_wp2_with fail
      go_loopw [3, 5] (fun v m wr' => ∃ (ys : List ByteArray) (b : Bool), m = .bool b ∧ Hid (Got w (bl xs) v wr' ys) ∧ Hid (∀ z ∈ bl xs, z ∈ bl ys) ∧ Hid (b = false → ∀ t ∈ bl ys, ∀ x, Gives (fun y => y ∈ bl ys) t x → x ∈ bl ys)) (fun v m _ => flagOf m * (N + 1 - lenOf v))
      case atStart => exact ⟨ys, true, rfl, HG, HIN, (fun h => by cases h)⟩
      case round =>
        clear HG HIN
        obtain ⟨ys0, b0, rfl, HG0, HI0, HC0⟩ := hrel
        have hy0 := HLEN.out _ _ _ HG0.out
        obtain ⟨A0, cc0, rfl⟩ := own_value HG0.out.1
        cases b0 with
        | false =>
          go_wp2
          go_ret
          exact ⟨⟨_, ys0, HG0.out.1, HG0.out.2.1, fun z => had_all HI0.out HG0.out.2.2.1 (HC0.out (by trivial)) z, rfl⟩, HG0.out.2.2.2⟩
        | true =>
          clear HC0
          go_wp2_with fail
          go_loopw [3, 5, 6] (fun v m i wr'' => ∃ (k : Nat) (ys : List ByteArray) (b : Bool), k ≤ ys.length ∧ i = .int .i64 k ∧ m = .bool b ∧ Hid (Got w (bl xs) v wr'' ys) ∧ Hid (∀ z ∈ bl xs, z ∈ bl ys) ∧ Hid (ys0.length ≤ ys.length) ∧ Hid (b = false → ∀ t ∈ bl (ys.take k), ∀ x, Gives (fun y => y ∈ bl ys) t x → x ∈ bl ys) ∧ Hid (b = true → ys0.length < ys.length)) (fun _ _ i _ => N + 1 - (intOf i).toNat)
          case atStart => exact ⟨0, ys0, false, Nat.zero_le _, rfl, rfl, HG0, HI0, Nat.le_refl _, (fun _ t ht => absurd ht (by simp [bl])), (fun h => by cases h)⟩
          case round =>
            obtain ⟨k, ys1, b1, hk, rfl, rfl, HG1, HI1, HL1, HC1, HM1⟩ := hrel
            have hy1 := HLEN.out _ _ _ HG1.out
            obtain ⟨A1, cc1, rfl⟩ := own_value HG1.out.1
            by_cases hlt : k < ys1.length
            · have HS1 := Lib.hid (sreads_own HG1.out.1).1
              obtain ⟨b, off, rfl, hblt, hcell⟩ := HS1.out k hlt
              obtain ⟨y, hy⟩ : ∃ y, ys1.getD k ByteArray.empty = y := ⟨_, rfl⟩
              rw [hy] at hcell
              have HYM : Hid (y.data.toList ∈ bl ys1) := List.mem_map.2 ⟨y, getD_mem hlt hy, rfl⟩
              have HTK : Hid (ys1.take (k + 1) = ys1.take k ++ [y]) := by
                have e : ys1[k] = y := by rw [← hy]; simp [List.getD, hlt]
                show _ = _
                rw [List.take_succ_eq_append_getElem hlt, e]
              have HYR : Hid (right y.data.toList = true) := had_right HRT.out (HG1.out.2.2.1 _ HYM.out)
              clear hy
              go_wp2_with fail
              refine (gives_any _ cc1 ys1 y wr HS1.out (by omega) HYR.out).mono ?_
              rintro e w3 ⟨⟨G, gc, gs, hgs, hgl, hgc, hgr, hgf, rfl⟩, hb3⟩
              have HGS := Lib.hid hgs
              have HGR := Lib.hid hgr
              have HOFF := Lib.hid (off_start HG1.out hgf)
              have HG3 := Lib.hid (got_call HG1.out hb3)
              clear hgs hgr hgf hb3 hcell hblt
              dsimp only
              go_wp2_with fail
              go_loopw [3, 5, 8] (fun v m i wr'' => ∃ (j : Nat) (ys : List ByteArray) (b : Bool), j ≤ gs.length ∧ i = .int .i64 j ∧ m = .bool b ∧ Hid (Got w (bl xs) v wr'' ys) ∧ Hid (∀ z ∈ bl ys1, z ∈ bl ys) ∧ Hid (ys1.length ≤ ys.length) ∧ Hid (SReads wr'' G gs) ∧ Hid (Off v G) ∧ Hid (∀ z ∈ bl (gs.take j), z ∈ bl ys) ∧ Hid (b = false → b1 = false ∧ ys = ys1) ∧ Hid (b = true → ys0.length < ys.length)) (fun _ _ i _ => gs.length - (intOf i).toNat)
              case atStart => exact ⟨0, ys1, b1, Nat.zero_le _, rfl, rfl, HG3, (fun _ h => h), Nat.le_refl _, HGR, HOFF, (fun t ht => absurd ht (by simp [bl])), (fun h => ⟨h, rfl⟩), HM1⟩
              case round =>
                clear HG3 HGR HOFF
                obtain ⟨j, ys, b2, hj, rfl, rfl, HG, HI, HL, HGR, HOFF, HA, HE, HM⟩ := hrel
                have hyN := HLEN.out _ _ _ HG.out
                obtain ⟨A, cc, rfl⟩ := own_value HG.out.1
                by_cases hlt2 : j < gs.length
                · obtain ⟨gb, goff, rfl, hgblt, hgcell⟩ := HGR.out j hlt2
                  obtain ⟨x, hx⟩ : ∃ x, gs.getD j ByteArray.empty = x := ⟨_, rfl⟩
                  rw [hx] at hgcell
                  have HXM : Hid (x.data.toList ∈ bl gs) := List.mem_map.2 ⟨x, getD_mem hlt2 hx, rfl⟩
                  have HXH : Hid (Had (bl xs) x.data.toList) := had_gives HG1.out.2.2.1 HYM.out ((HGS.out _).1 HXM.out)
                  have HSTEP : Hid (∀ zs : List ByteArray, (∀ z ∈ bl ys, z ∈ bl zs) → x.data.toList ∈ bl zs → ∀ z ∈ bl (gs.take (j + 1)), z ∈ bl zs) := fun zs h1 h2 z hz => by
                    have e : gs[j] = x := by rw [← hx]; simp [List.getD, hlt2]
                    rw [List.take_succ_eq_append_getElem hlt2, e] at hz
                    rcases mem_app.1 hz with h | h
                    · exact h1 z (HA.out z h)
                    · rw [h]; exact h2
                  clear hx
                  by_cases hm : x.data.toList ∈ bl ys
                  · have HMM := Lib.hid hm
                    clear hm
                    go_wp2_with (go_at_call 57; refine (has_any A cc ys x _ (sreads_own HG.out.1).1 (by omega)).mono ?_; rw [show decide (x.data.toList ∈ bl ys) = true from decide_eq_true HMM.out]; rintro e w1 ⟨rfl, rfl⟩)
                    go_roundw
                    case rel => exact ⟨j + 1, ys, b2, by omega, by go_num, rfl, HG, HI, HL, HGR, HOFF, HSTEP.out ys (fun _ h => h) HMM.out, HE, HM⟩
                    case measure => simp [intOf]; omega
                  · have HMM := Lib.hid hm
                    clear hm
                    go_wp2_with (first
                      | (go_at_call 57; refine (has_any A cc ys x _ (sreads_own HG.out.1).1 (by omega)).mono ?_; rw [show decide (x.data.toList ∈ bl ys) = false from decide_eq_false HMM.out]; rintro e w1 ⟨rfl, rfl⟩)
                      | (at_builtin
                         refine wpList_append_lies _ rfl _ _ _ rfl w.heap.size 9 i0 _ 1 16 Try.underlying22 hi0 hz0 hz1 hz2 rfl (by decide) _ ys.length (sv ys) rfl (HG.out.1.alloc _) _ 1 1 [.string x] rfl rfl (lit_cells _ _ _) (sv_one [x]) (by decide) (by simp only [maxLen]; omega) (by omega) ?h6 _ rfl ?_
                         case h6 =>
                           have h := HG.out.2.2.2.size
                           simp only [World.alloc, Array.size_push]
                           exact Nat.le_succ_of_le h
                         intro gg cap2 w6 hown hgrow hat hlt6
                         have HO6 := Lib.hid hown
                         have HG6 := Lib.hid hgrow
                         have HAT6 := Lib.hid hat
                         clear hown hgrow hat))
                    go_roundw
                    case rel =>
                      refine ⟨j + 1, ys ++ [x], true, by omega, by go_num, rfl, ?_, (fun z h => mem_app.2 (.inl (HI.out z h))), ?_, ?_, ?_, HSTEP.out _ (fun z h => mem_app.2 (.inl h)) (mem_app.2 (.inr rfl)), (fun h => by cases h), (fun _ => ?_)⟩
                      · exact got_add HG.out HMM.out HXH.out HO6.out ((HG.out.2.2.2.alloc HG.out.2.2.2.size _).grown HG6.out (by
                          have := HG.out.2.2.2.size
                          simp only [World.alloc, Array.size_push]
                          omega) fun g hg => (HG.out.1.lt g hg).1)
                      · have h1 := HL.out
                        show _ ≤ (ys ++ [x]).length
                        rw [List.length_append, List.length_singleton]
                        omega
                      · exact sreads_grown (HGR.out.below ((Below.refl wr.heap.size _).alloc (Nat.le_refl _) _) (Nat.le_refl _)) HG6.out fun b off e h => HOFF.out b off e h.symm
                      · exact off_step HOFF.out HGR.out hlt2 (by simp only [World.alloc, Array.size_push]; omega) HAT6.out
                      · have h1 := HL.out
                        have h2 := HL1.out
                        rw [List.length_append, List.length_singleton]
                        omega
                    case measure => simp [intOf]; omega
                · obtain rfl : j = gs.length := by omega
                  have hall := HA.out
                  rw [List.take_length] at hall
                  have HALL := Lib.hid hall
                  clear hall HA
                  go_wp2_with fail
                  go_roundw
                  case rel =>
                    have hl := HL.out
                    refine ⟨k + 1, ys, b2, by omega, by go_num, rfl, HG, (fun z h => HI.out z (HI1.out z h)), Nat.le_trans HL1.out HL.out, (fun h => ?_), HM⟩
                    obtain ⟨rfl, rfl⟩ := HE.out h
                    rw [HTK.out]
                    intro t ht z hz
                    rcases mem_app.1 ht with h1 | h1
                    · exact HC1.out rfl t h1 z hz
                    · rw [h1] at hz
                      exact HALL.out z ((HGS.out z).2 hz)
                  case measure =>
                    have hl := HL.out
                    simp [intOf]; omega
            · obtain rfl : k = ys1.length := by omega
              have hall := HC1.out
              rw [List.take_length] at hall
              have HALL := Lib.hid hall
              clear hall HC1
              go_wp2_with fail
              go_roundw
              case rel => exact ⟨ys1, b1, rfl, HG1, HI1, HALL⟩
              case measure =>
                have hl := HL1.out
                have hm := HM1.out
                cases b1 with
                | false => simp [flagOf, lenOf]; omega
                | true =>
                  have := hm rfl
                  simp [flagOf, lenOf]; omega
end Go.Proofs.Ytcplagomhfdoaaa.Clo
