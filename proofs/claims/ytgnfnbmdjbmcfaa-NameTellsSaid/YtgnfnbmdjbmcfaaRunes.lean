/-
  CONTRACTS of name.broken and name.Runes at this program. By an AI agent; no person has read it.
-/
import Derived.Test.YtgnfnbmdjbmcfaaNamed
import Derived.WalkSmall
namespace Go.Proofs.Ytgnfnbmdjbmcfaa
open Go.RowKit Txt

def brk (l : List UInt8) (r : Int) : Bool := r == 65533 && !(Lib.hasPrefix l [239, 191, 189])
set_option maxHeartbeats 1000000 in
theorem broken_any (s : ByteArray) (r : Int) (w : World) : Calls Try.prog 30 #[.string s, .int .i32 r] w fun e w' => e = .returned (.bool (brk s.data.toList r)) ∧ w = w' := by
  cases h : (r == 65533) with
  | false =>
    go_enter Try.func30, Try.ntmps30
    go_wp2_with fail
    go_ret
    exact ⟨ret_bool (by simp [brk, h]), rfl⟩
  | true =>
    go_enter Try.func30, Try.ntmps30
    go_wp2_with fail
    refine (Try.strings_HasPrefix s ⟨#[239, 191, 189]⟩ _).mono ?_
    rintro e w1 ⟨rfl, rfl⟩
    go_wp2_with fail
    go_ret
    exact ⟨ret_bool (by simp [brk, h]), rfl⟩
theorem brk_is {l : List UInt8} (hne : l ≠ []) : brk l ((Lib.decodeL l).1 : Int) = decide (Lib.decodeL l = (65533, 1)) := by
  have e3 : Lib.encodeRune 65533 = [239, 191, 189] := by decide
  by_cases hb : Lib.decodeL l = (65533, 1)
  · rw [decide_eq_true hb, hb]
    have : Lib.hasPrefix l [239, 191, 189] = false := by
      cases hp : Lib.hasPrefix l [239, 191, 189] with
      | false => rfl
      | true =>
        exfalso
        obtain ⟨t, rfl⟩ := List.isPrefixOf_iff_prefix.1 hp
        have h1 := dec_enc (r := 65533) (by decide) t
        rw [e3, hb] at h1
        simp at h1
    simp [brk, this]
  · rw [decide_eq_false hb]
    cases hr : (((Lib.decodeL l).1 : Int) == 65533) with
    | false => simp [brk, hr]
    | true =>
      have h1 := (enc_dec l hne hb).1
      have hr2 : ((Lib.decodeL l).1 : Int) = 65533 := by simpa using hr
      rw [hr2, e3] at h1
      have : Lib.hasPrefix l [239, 191, 189] = true := List.isPrefixOf_iff_prefix.2 ⟨_, h1⟩
      simp [brk, this]
theorem broken_call (s : ByteArray) (r : Int) (v : Bool) (w : World) (hne : s.data.toList ≠ []) (hr : ((Lib.decodeL s.data.toList).1 : Int) = r) (hv : decide (Lib.decodeL s.data.toList = (65533, 1)) = v) :
    Calls Try.prog 30 #[.string s, .int .i32 r] w fun e w' => e = .returned (.bool v) ∧ w = w' := by
  have := broken_any s r w
  rw [← hr, brk_is hne, hv, hr] at this
  exact this

def Runed (w : World) (base : Nat) (l : List UInt8) (e : Ending) : Prop :=
  (runes l = none ∧ e = .returned (.tuple #[.slice none 0 0, .int .i64 2])) ∨
  ∃ rs v, runes l = some rs ∧ e = .returned (.tuple #[v, .int .i64 0]) ∧ w.ownsRow base 21 1 v rs.length (rs.map (Value.int .i32))

theorem extract_drop (s : ByteArray) (pos : Nat) : (s.extract pos s.size).data.toList = s.data.toList.drop pos := by
  rw [Lib.extract_data, List.take_of_length_le (by rw [List.length_drop, ← Lib.size_eq]; exact Nat.le_refl _)]

set_option maxHeartbeats 4000000 in
set_option maxRecDepth 1000000 in
theorem runes_any (s : ByteArray) (w : World) (hs : s.size ≤ 1000000) :
    Calls Try.prog 13 #[.string s] w fun e w' => Runed w' (w.heap.size + 1) s.data.toList e ∧ Below w.heap.size w w' := by
  obtain ⟨i0, hi, hz0, hz1, hz2⟩ := info_parts info32
  go_enter Try.func13, Try.ntmps13
  go_wp2
  go_loopw [4] (fun v wr => ∃ (pos : Nat) (rs : List Int), wr.heap[w.heap.size]? = some (.stringIter s pos) ∧ rs.length ≤ pos ∧ pos ≤ s.size ∧ Below w.heap.size w wr ∧
      wr.ownsRow (w.heap.size + 1) 21 1 v rs.length (rs.map (Value.int .i32)) ∧ runes s.data.toList = (runes (s.data.toList.drop pos)).map fun q => rs ++ q) (fun _ wr => s.size - wr.iterPos w.heap.size)
  case atStart =>
    refine ⟨0, [], World.iter_heap w s 0, Nat.le_refl _, Nat.zero_le _, (Below.refl _ w).alloc (Nat.le_refl _) _, World.ownsRow_nil _ _ _ _, ?_⟩
    rw [List.drop_zero]
    cases runes s.data.toList <;> simp
  case round =>
    obtain ⟨pos, rs, hit, hrp, hps, hb, hown, hrun⟩ := hrel
    have hsz : w.heap.size < wr.heap.size := (Array.getElem?_eq_some_iff.1 hit).1
    have HIT := Lib.hid hit
    have HO := Lib.hid hown
    have HU := Lib.hid hrun
    clear hown hrun
    by_cases hp : pos < s.size
    · have hnx : ∀ ty, (Instr.next (.pointer (some ⟨w.heap.size, 0, none⟩)) true ty).run Try.prog wr = _ := fun ty => Lib.run_next_any_at wr w.heap.size s pos ty hit hp
      have hwd := Lib.width_pos s pos
      have hd1 := decode_le s pos
      have hne := drop_ne s hp
      have hdw := dec_le _ hne
      rw [← decode_drop, List.length_drop, ← Lib.size_eq] at hdw
      obtain ⟨⟨r, wd⟩, hd⟩ : ∃ p, Utf8.decode s pos = p := ⟨_, rfl⟩
      rw [hd] at hnx hwd hd1 hdw
      simp only at hnx hwd hd1 hdw
      have hb2 := Lib.below_iterAt hb (k := w.heap.size) (Nat.le_refl _) s (pos + wd)
      have HO2 := Lib.hid (ownsRow_iterAt HO.out (k := w.heap.size) (by omega) s (pos + wd))
      have hit2 := Lib.hid (Lib.iterAt_heap wr w.heap.size s pos (pos + wd) hit)
      have hws := Lib.iterAt_size wr w.heap.size s (pos + wd)
      obtain ⟨wi, hwi⟩ : ∃ wi, wr.iterAt w.heap.size s (pos + wd) = wi := ⟨_, rfl⟩
      rw [hwi] at hnx hb2 HO2 hit2 hws
      have hsz2 : w.heap.size < wi.heap.size := by omega
      have HPOS := Lib.hid (iterPos_of hit)
      clear hit HIT hwi hws hb HO
      have hdl : Lib.decodeL (s.data.toList.drop pos) = (r, wd) := by rw [← decode_drop]; exact hd
      have HDL := Lib.hid hdl
      have HNE := Lib.hid hne
      clear hd hdl hne
      have c1 : (0 : Int) ≤ ↑pos := by omega
      have c2 : (↑pos : Int) ≤ ↑s.size := by omega
      by_cases hbad : (r, wd) = (65533, 1)
      · have HB := Lib.hid hbad
        clear hbad
        go_wp2_with fail
        refine (broken_call _ r true _ (by rw [extract_drop]; exact HNE.out) (by rw [extract_drop, HDL.out]) (by rw [extract_drop, HDL.out]; exact decide_eq_true HB.out)).mono ?_
        rintro e w1 ⟨rfl, rfl⟩
        go_wp2_with fail
        go_ret2
        refine ⟨.inl ⟨?_, rfl⟩, hb2⟩
        rw [HU.out, runes_bad HNE.out (by rw [HDL.out, HB.out])]
        rfl
      · have HB := Lib.hid hbad
        clear hbad
        go_wp2_with fail
        refine (broken_call _ r false _ (by rw [extract_drop]; exact HNE.out) (by rw [extract_drop, HDL.out]) (by rw [extract_drop, HDL.out]; exact decide_eq_false HB.out)).mono ?_
        rintro e w1 ⟨rfl, rfl⟩
        go_wp2_with (at_builtin; refine wpList_append_own _ rfl _ _ 23 rfl (w.heap.size + 1) 21 i0 (.int .i32 0) 1 4 Try.underlying23 hi hz0 hz1 hz2 rfl (by decide) _ _ _ rfl (HO2.out.alloc _) ⟨wi.heap.size, 0, none⟩ 1 1 [.int .i32 r] rfl rfl ?c1 ?c2 ?c3 ?c4 ?c5 ?_)
        case c1 =>
          intro j u hj
          match j, hj with
          | 0, hj => simp at hj; subst hj; simp [Addr.add]
        case c2 => intro u hu; simp at hu; subst hu; rfl
        case c3 => unfold maxLen; omega
        case c4 => omega
        case c5 => simp; omega
        intro v' w2 hown' hgrow _
        have hbel : Below (w.heap.size + 1) wi w2 := Below.grown ((Below.refl _ _).alloc (by omega) _) hgrow (by simp; omega) (fun c hc => (HO2.out.lt c hc).1)
        have hit3 : w2.heap[w.heap.size]? = some (.stringIter s (pos + wd)) := by rw [hbel.block _ (by omega)]; exact hit2.out
        have HIT3 := Lib.hid hit3
        have HO3 := Lib.hid hown'
        have hb3 : Below w.heap.size w w2 := hb2.trans (hbel.mono (by omega))
        clear hown' hgrow hbel hb2 hit3
        go_wp2
        go_roundw
        case rel =>
          refine ⟨pos + wd, rs ++ [(r : Int)], HIT3.out, by rw [List.length_append]; show rs.length + 1 ≤ _; omega, by omega, hb3, ?_, ?_⟩
          · rw [List.length_append, List.map_append]; exact HO3.out
          · rw [HU.out, runes_step HNE.out (by rw [HDL.out]; exact HB.out), HDL.out, List.drop_drop]
            simp [Option.map_map, Function.comp_def]
        case measure =>
          simp only [iterPos_of HIT3.out, HPOS.out]
          omega
    · have hnx : ∀ ty, (Instr.next (.pointer (some ⟨w.heap.size, 0, none⟩)) true ty).run Try.prog wr = _ := fun ty => Lib.run_next_end_at wr w.heap.size s pos ty hit hp
      go_wp2
      go_ret2
      refine ⟨.inr ⟨rs, _, ?_, rfl, HO.out⟩, hb⟩
      rw [HU.out, drop_end s hp, runes_nil]
      simp
end Go.Proofs.Ytgnfnbmdjbmcfaa
