/-
  CONTRACT of the document's Apart (letterlockref4): its sorting by swaps. By an AI agent; no person has read it.
-/
import Derived.Test.YtcplagomhfdoaaaCRef3
import Derived.Laws.Cover1
namespace Go.Proofs.Ytcplagomhfdoaaa.Clo
open Go.RowKit Wire Term

theorem swap_set (P T : List ByteArray) (p x : ByteArray) : ((P ++ p :: x :: T).set (P.length + 1) p).set P.length x = P ++ x :: p :: T := by
  induction P with
  | nil => rfl
  | cons a P ih => simp only [List.cons_append, List.length_cons, List.set_cons_succ, ih]
theorem rising_ins {P Q : List (List UInt8)} {x : List UInt8} (h : Rising (P ++ Q)) (hq : ∀ q ∈ Q, Op.bytesLess x q = true) (hp : ∀ p ∈ P, Op.bytesLess p x = true) : Rising (P ++ x :: Q) := by
  obtain ⟨h1, h2, h3⟩ := List.pairwise_append.1 h
  refine List.pairwise_append.2 ⟨h1, List.pairwise_cons.2 ⟨hq, h2⟩, fun a ha b hb => ?_⟩
  rcases List.mem_cons.1 hb with rfl | hb
  · exact hp a ha
  · exact h3 a ha b hb
theorem below_last {P Q : List (List UInt8)} {p x : List UInt8} (h : Rising ((P ++ [p]) ++ Q)) (hpx : Op.bytesLess p x = true) : ∀ y ∈ P ++ [p], Op.bytesLess y x = true := fun y hy => by
  obtain ⟨h1, _, _⟩ := List.pairwise_append.1 h
  obtain ⟨_, _, h3⟩ := List.pairwise_append.1 h1
  rcases List.mem_append.1 hy with hy | hy
  · exact less_trans (h3 y hy p (by simp)) hpx
  · rw [List.mem_singleton.1 hy]; exact hpx
/-- A row of one's own, of these texts in some order. -/
def Srt (w : World) (L : List ByteArray) (g n c : Nat) (ys : List ByteArray) (wr : World) : Prop := wr.ownsRow w.heap.size 9 1 (.slice (some ⟨g, 0, none⟩) n c) n (sv ys) ∧ ys.Perm L ∧ Below w.heap.size w wr
/-- One more is being brought to its place: it stands at k. -/
def Ins (i k : Nat) (ys : List ByteArray) : Prop := ∃ (P : List ByteArray) (x : ByteArray) (Q R : List ByteArray), P.length = k ∧ P.length + Q.length = i ∧ ys = P ++ x :: (Q ++ R) ∧ Rising (bl P ++ bl Q) ∧ ∀ q ∈ bl Q, Op.bytesLess x.data.toList q = true
theorem ins_start {i : Nat} {ys : List ByteArray} (hi : i < ys.length) (h : Rising (bl (ys.take i))) : Ins i i ys :=
  ⟨ys.take i, ys[i], [], ys.drop (i + 1), by simp; omega, by simp; omega, by simp [List.take_append_drop], by simpa [bl] using h, by simp [bl]⟩
theorem ins_zero {i : Nat} {ys : List ByteArray} (h : Ins i 0 ys) : Rising (bl (ys.take (i + 1))) := by
  obtain ⟨P, x, Q, R, h1, h2, rfl, h3, h4⟩ := h
  obtain rfl := List.length_eq_zero_iff.1 h1
  have hq : Q.length = i := by simpa using h2
  have e : ([] ++ x :: (Q ++ R)).take (i + 1) = x :: Q := by rw [List.nil_append, List.take_succ_cons, ← hq, List.take_left']; rfl
  rw [e]
  exact rising_ins (P := []) h3 h4 (by simp)
/-- The two that are looked at, behind the first place. -/
theorem ins_two {i k : Nat} {ys : List ByteArray} (h : Ins i k ys) (hk : 0 < k) (hn : (bl ys).Nodup) : ∃ (p x : ByteArray), k < ys.length ∧ ys.getD k ByteArray.empty = x ∧ ys.getD (k - 1) ByteArray.empty = p ∧
    (Op.bytesLess x.data.toList p.data.toList = true → Ins i (k - 1) ((ys.set k p).set (k - 1) x) ∧ ((ys.set k p).set (k - 1) x).Perm ys) ∧ (Op.bytesLess x.data.toList p.data.toList = false → Rising (bl (ys.take (i + 1)))) := by
  obtain ⟨P, x, Q, R, h1, h2, rfl, h3, h4⟩ := h
  obtain ⟨P', p, rfl⟩ : ∃ P' p, P = P' ++ [p] := ⟨P.dropLast, P.getLast (by intro e; rw [e] at h1; simp at h1; omega), (List.dropLast_concat_getLast _).symm⟩
  have hk1 : k = P'.length + 1 := by rw [← h1]; simp
  subst hk1
  have e : (P' ++ [p]) ++ x :: (Q ++ R) = P' ++ p :: x :: (Q ++ R) := by simp
  rw [e] at hn ⊢
  refine ⟨p, x, by simp, by simp [List.getD], by simp [List.getD], fun hlt => ?_, fun hlt => ?_⟩
  · rw [Nat.add_sub_cancel, swap_set]
    refine ⟨⟨P', x, p :: Q, R, rfl, by rw [← h2]; simp; omega, by simp, by simpa [bl] using h3, fun q hq => ?_⟩, (List.Perm.swap _ _ _).append_left _⟩
    rcases List.mem_cons.1 (show q ∈ p.data.toList :: bl Q from hq) with rfl | hq
    · exact hlt
    · exact h4 q hq
  · have hne : p.data.toList ≠ x.data.toList := fun e2 => by
      have hb : bl (P' ++ p :: x :: (Q ++ R)) = bl P' ++ p.data.toList :: x.data.toList :: bl (Q ++ R) := by simp [bl]
      rw [hb, e2] at hn
      obtain ⟨_, h6, _⟩ := List.nodup_append.1 hn
      exact (List.nodup_cons.1 h6).1 (by simp)
    have hpx : Op.bytesLess p.data.toList x.data.toList = true := by
      rcases less_tri p.data.toList x.data.toList with h | h | h
      · exact h
      · exact absurd h hne
      · rw [hlt] at h; cases h
    have e3 : (P' ++ p :: x :: (Q ++ R)).take (i + 1) = (P' ++ [p]) ++ x :: Q := by
      rw [← e, show i + 1 = (P' ++ [p]).length + (Q.length + 1) by omega, List.take_length_add_append, List.take_succ_cons, List.take_left']
      rfl
    rw [e3, show bl ((P' ++ [p]) ++ x :: Q) = bl (P' ++ [p]) ++ x.data.toList :: bl Q by simp [bl]]
    refine rising_ins h3 h4 ?_
    rw [show bl (P' ++ [p]) = bl P' ++ [p.data.toList] by simp [bl]] at h3 ⊢
    exact below_last h3 hpx
theorem sv_set (ys : List ByteArray) (k : Nat) (x : ByteArray) : (sv ys).set k (.string x) = sv (ys.set k x) := by simp only [sv, List.map_set]
theorem nodup_perm {a b : List ByteArray} (h : a.Perm b) (hb : (bl b).Nodup) : (bl a).Nodup := ((h.map fun y : ByteArray => y.data.toList).nodup_iff).2 hb
theorem srt_swap {w wr : World} {L ys : List ByteArray} {g n c k : Nat} {p x : ByteArray} (h : Srt w L g n c ys wr) (hp : ((ys.set k p).set (k - 1) x).Perm ys) :
    Srt w L g n c ((ys.set k p).set (k - 1) x) ((wr.setCell ⟨g, k, none⟩ (.string p)).setCell ⟨g, k - 1, none⟩ (.string x)) := by
  have hg : ∀ g', some g = some g' → w.heap.size ≤ g' := fun g' e => (h.1.lt g' e).1
  have h1 := h.1.stored k (.string p)
  have h2 := h1.1.stored (k - 1) (.string x)
  rw [sv_set, sv_set] at h2
  exact ⟨h2.1, hp.trans h.2.1, (h.2.2.grown h1.2 h.2.2.size hg).grown h2.2 (h.2.2.grown h1.2 h.2.2.size hg).size hg⟩
theorem srt_drew {w wr : World} {L ys : List ByteArray} {g n c : Nat} (h : Srt w L g n c ys wr) (m : Nat) : Srt w L g n c ys (wr.drewN m) := ⟨h.1, h.2.1, h.2.2.trans (bdrew _ _)⟩
theorem ap_no {held : List (List UInt8)} {f : Int} (h : RtE held f) (hf : f ≠ 0) : Ap held ([], f) := by
  rcases h with ⟨h, rfl⟩ | ⟨h, h2, rfl⟩ | ⟨_, _, rfl⟩
  · exact .inl ⟨h, rfl⟩
  · exact .inr (.inl ⟨h, h2, rfl⟩)
  · exact absurd rfl hf
set_option maxHeartbeats 8000000 in
set_option maxRecDepth 1000000 in
theorem apart4_any (a : Option Addr) (c : Nat) (xs : List ByteArray) (w : World) (hr : SReads w a xs) (hn : xs.length ≤ 140737488355328) (hz : ∀ y ∈ xs, y.size ≤ 140737488355328) :
    Calls Try.prog 15 #[.slice a xs.length c] w fun e w' => ApE (bl xs) e w' ∧ Below w.heap.size w w' := by
  have HR := Lib.hid hr
  have HZ := Lib.hid hz
  clear hr hz
  go_enter Try.func15, Try.ntmps15
  go_wp2_with fail
  refine (right4_any a c xs _ HR.out hn HZ.out).mono ?_
  rintro e w1 ⟨⟨f, hf, rfl⟩, hb1⟩
  have HF := Lib.hid hf
  have HB1 := Lib.hid hb1
  clear hf hb1
  by_cases h0 : f = 0
  · subst h0
    obtain ⟨hrt, hn2⟩ := rt_ok HF.out
    have HRT := Lib.hid hrt
    have HN2 := Lib.hid hn2
    have HSUM := Lib.hid (sum_right hrt hn2)
    have hn3 : xs.length ≤ 200 := by rwa [bl_len] at hn2
    clear hrt hn2
    go_wp2_with fail
    refine (had_any a c xs _ (HR.out.below HB1.out (Nat.le_refl _)) HRT.out (by omega) HSUM.out).mono ?_
    rintro e w3 ⟨⟨v, L, ho, hnd, hiff, rfl⟩, hb3⟩
    have HND := Lib.hid hnd
    have HI := Lib.hid hiff
    have hyl : L.length ≤ 1000000 := by
      have h1 := had_many HRT.out hnd fun z hz => (hiff z).1 hz
      rw [bl_len] at h1
      exact Nat.le_trans h1 HSUM.out
    have HB3 := Lib.hid (Bel.call HB1.out hb3)
    clear hnd hiff
    obtain ⟨n, hln⟩ : ∃ n, L.length = n := ⟨_, rfl⟩
    have HLN := Lib.hid hln
    rw [hln] at hyl ho
    clear hln
    by_cases hn0 : n = 0
    · subst hn0
      obtain rfl : L = [] := List.length_eq_zero_iff.1 HLN.out
      obtain ⟨A, cc, rfl⟩ := own_value ho
      clear ho hb3
      go_wp2_with fail
      go_loopw [6] (fun i wr => i = .int .i64 1 ∧ wr = w3) (fun _ _ => 0)
      case atStart => exact ⟨rfl, rfl⟩
      case round =>
        obtain ⟨rfl, rfl⟩ := hrel
        go_wp2_with fail
        go_ret2
        exact ⟨⟨A, cc, [], 0, .inr (.inr ⟨HRT.out, HN2.out, rfl, List.Pairwise.nil, HI.out⟩), Nat.zero_le _, by simp, SReads.nil _ _, rfl⟩, HB3.out⟩
    · obtain ⟨g, cc, rfl, hg1, hg2⟩ := ho.form (by omega)
      have hsr : Srt w1 L g n cc L w3 := ⟨ho, List.Perm.refl _, hb3⟩
      have HSR := Lib.hid hsr
      clear hsr ho hb3
      go_wp2_with fail
      go_loopw [6] (fun i wr => ∃ (k : Nat) (ys : List ByteArray), 1 ≤ k ∧ k ≤ n ∧ i = .int .i64 k ∧ Hid (Srt w1 L g n cc ys wr) ∧ Hid (Rising (bl (ys.take k)))) (fun i _ => n - (intOf i).toNat)
      case atStart =>
        refine ⟨1, L, Nat.le_refl _, by omega, rfl, HSR, ?_⟩
        show Rising _
        cases L with
        | nil => exact List.Pairwise.nil
        | cons a r => exact List.pairwise_singleton _ _
      case round =>
        clear HSR
        obtain ⟨i, ys, hi1, hin, rfl, HS, HRI⟩ := hrel
        by_cases hlt : i < n
        · have HIN : Hid (Ins i i ys) := ins_start (by rw [HS.out.2.1.length_eq, HLN.out]; exact hlt) HRI.out
          clear HRI
          go_wp2_with fail
          go_loopw [7] (fun q wr' => ∃ (k : Nat) (ys : List ByteArray), k ≤ i ∧ q = .int .i64 k ∧ Hid (Srt w1 L g n cc ys wr') ∧ Hid (Ins i k ys)) (fun q _ => (intOf q).toNat)
          case atStart => exact ⟨i, ys, Nat.le_refl _, rfl, HS, HIN⟩
          case round =>
            clear HS HIN
            obtain ⟨k, zs, hki, rfl, HS, HIN⟩ := hrel
            by_cases hk0 : k = 0
            · subst hk0
              go_wp2
              go_quiet (fail)
              go_wp2
              go_roundw
              case rel => exact ⟨i + 1, zs, by omega, by omega, by go_num, srt_drew HS.out _, ins_zero HIN.out⟩
              case measure => simp [intOf]; omega
            · obtain ⟨p, x, hkl, hx, hp, hyes, hno⟩ := ins_two HIN.out (by omega) (nodup_perm HS.out.2.1 HND.out)
              have hzl : zs.length = n := by rw [HS.out.2.1.length_eq, HLN.out]
              have hcx := own_get HS.out.1 hzl (j := k) (by omega)
              have hcp := own_get HS.out.1 hzl (j := k - 1) (by omega)
              rw [hx] at hcx
              rw [hp] at hcp
              have hfx := HS.out.1.frozenAt k
              have hfp := HS.out.1.frozenAt (k - 1)
              have HYES := Lib.hid hyes
              have HNO := Lib.hid hno
              have hi1' : (1 : Int) ≤ (k : Int) := by omega
              have hi2 : IntKind.i64.wrap ((k : Int) - 1) = (k : Int) - 1 := by rw [IntKind.wrap_i64]; omega
              have hi3 : ((k : Int) - 1).toNat = k - 1 := by omega
              have hi4 : (0 : Int) ≤ (k : Int) - 1 := by omega
              have hi5 : (k : Int) - 1 < (n : Int) := by omega
              have hi6 : (0 : Int) < (k : Int) := by omega
              have hi8 : 0 < k := by omega
              have hi7 : (k : Int) < (n : Int) := by omega
              clear hyes hno hx hp hkl hzl hk0
              cases hb : Op.bytesLess x.toList p.toList with
              | true =>
                go_wp2
                go_quiet (fail)
                go_wp2
                obtain ⟨hi9, hpm⟩ := HYES.out (by rw [← Lib.toList_data, ← Lib.toList_data]; exact hb)
                go_roundw
                case rel => exact ⟨k - 1, _, by omega, by go_num, srt_swap (srt_drew HS.out _) hpm, hi9⟩
                case measure => simp [intOf]; omega
              | false =>
                go_wp2
                go_quiet (fail)
                go_wp2
                go_roundw
                case rel => exact ⟨i + 1, zs, by omega, by omega, by go_num, srt_drew HS.out _, HNO.out (by rw [← Lib.toList_data, ← Lib.toList_data]; exact hb)⟩
                case measure => simp [intOf]; omega
        · obtain rfl : i = n := by omega
          have hzl : ys.length = i := by rw [HS.out.2.1.length_eq, HLN.out]
          have hri := HRI.out
          rw [← hzl, List.take_length] at hri
          have HRS := Lib.hid hri
          have HBW := Lib.hid (Bel.call HB1.out HS.out.2.2)
          obtain ⟨hs1, _, hs2⟩ := sreads_own HS.out.1
          have HSS := Lib.hid hs1
          have HME : Hid (∀ z, z ∈ bl ys ↔ Had (bl xs) z) := fun z => ((HS.out.2.1.map fun y : ByteArray => y.data.toList).mem_iff).trans (HI.out z)
          clear hs1 hri HRI
          go_wp2_with fail
          go_ret2
          exact ⟨⟨_, cc, ys, 0, .inr (.inr ⟨HRT.out, HN2.out, rfl, HRS.out, HME.out⟩), by omega, by omega, HSS.out, by rw [hzl]; rfl⟩, HBW.out⟩
  · have hfb : (f == 0) = false := by simpa using h0
    have hfc : (f != 0) = true := by simpa using h0
    have HF0 := Lib.hid h0
    clear h0
    go_wp2_with fail
    go_ret2
    exact ⟨⟨none, 0, [], f, ap_no HF.out HF0.out, Nat.zero_le _, by simp, SReads.nil _ _, rfl⟩, HB1.out⟩
end Go.Proofs.Ytcplagomhfdoaaa.Clo
