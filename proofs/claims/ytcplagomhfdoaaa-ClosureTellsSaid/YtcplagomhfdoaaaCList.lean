/-
  CONTRACT of the code's had (package closure): all that is marked, sorted. By an AI agent; no person has read it.
-/
import Derived.Test.YtcplagomhfdoaaaCTogether
import Derived.Test.YtcplagomhfdoaaaShelfS
import Derived.Sort.OwnSorted
import Derived.Sort.Walk0
namespace Go.Proofs.Ytcplagomhfdoaaa.Clo
open Go.RowKit Go.Sort Wire Term

theorem sv_enc (ss : List ByteArray) : (bl ss).map encStr = sv ss := by
  simp only [bl, sv, List.map_map]
  refine List.map_congr_left fun y _ => ?_
  simp [encStr]
def unb (l : List Tm) : List ByteArray := l.map fun x => ⟨x.toArray⟩
theorem bl_unb (l : List Tm) : bl (unb l) = l := by
  unfold bl unb
  rw [List.map_map]
  have : ((fun y : ByteArray => y.data.toList) ∘ fun x : Tm => (⟨x.toArray⟩ : ByteArray)) = id := by funext x; simp
  rw [this, List.map_id]
theorem sv_unb (l : List Tm) : l.map encStr = sv (unb l) := by rw [← sv_enc, bl_unb]
/-- What the library's sort leaves of a row in which no bytes stand twice. -/
theorem rising_sort {l : List Tm} (h : l.Nodup) : Rising (l.mergeSort fun x y => decide (x ≤ y)) ∧ ∀ x, x ∈ (l.mergeSort fun x y => decide (x ≤ y)) ↔ x ∈ l := by
  have hp := List.mergeSort_perm l (fun x y => decide (x ≤ y))
  refine ⟨?_, fun x => hp.mem_iff⟩
  have hs := List.pairwise_mergeSort (le := fun x y : Tm => decide (x ≤ y)) (fun a b c h1 h2 => by simp only [decide_eq_true_eq] at *; exact List.le_trans h1 h2) (fun a b => by simp only [Bool.or_eq_true, decide_eq_true_eq]; exact List.le_total a b) l
  have hn : (l.mergeSort fun x y => decide (x ≤ y)).Pairwise (fun a b => a ≠ b) := (hp.nodup_iff).2 h
  refine List.Pairwise.imp₂ (fun {a b} h1 h2 => ?_) hs hn
  rw [bytesLess_eq]
  simp only [decide_eq_true_eq] at h1 ⊢
  exact Classical.byContradiction fun hn => h2 (List.le_antisymm h1 (List.not_lt.1 hn))
/-- What has been collected. -/
def Coll (K : List Tm) (F : Tm → Fa) (left : Lit → Bool) (ss : List ByteArray) : Prop := (bl ss).Nodup ∧ ∀ x, x ∈ bl ss ↔ (x ∈ K ∧ (F x).1 = true ∧ left (.string x) = false)
theorem coll_no {K : List Tm} {F : Tm → Fa} {left : Lit → Bool} {ss : List ByteArray} {t : Tm} (h : Coll K F left ss) (hf : (F t).1 = false) : Coll K F (fun z => left z && !z.sameKey (.string t)) ss := by
  refine ⟨h.1, fun x => ?_⟩
  rw [h.2 x]
  by_cases e : x = t
  · rw [e, hf]; simp
  · simp [Lit.sameKey, e]
theorem coll_yes {K : List Tm} {F : Tm → Fa} {left : Lit → Bool} {ss : List ByteArray} {s : ByteArray} (h : Coll K F left ss) (hK : s.data.toList ∈ K) (hf : (F s.data.toList).1 = true) (hl : left (.string s.data.toList) = true) : Coll K F (fun z => left z && !z.sameKey (.string s.data.toList)) (ss ++ [s]) := by
  have hnew : s.data.toList ∉ bl ss := fun e => by
    have := ((h.2 _).1 e).2.2
    rw [hl] at this; cases this
  refine ⟨?_, fun x => ?_⟩
  · rw [bl_app']
    refine List.nodup_append.2 ⟨h.1, by simp, fun a ha b hb => ?_⟩
    rw [List.mem_singleton.1 hb]
    exact fun e => hnew (e ▸ ha)
  · rw [bl_app', List.mem_append, List.mem_singleton, h.2 x]
    by_cases e : x = s.data.toList
    · rw [e]; simp [hK, hf, Lit.sameKey]
    · simp [Lit.sameKey, e]
/-- A fact's value, whatever it is of. -/
theorem Mind.value {base pb mb : Nat} {own : Nat → Tag} {nv : Value} {K : List Tm} {F : Tm → Fa} {N : List Tm} {V : Tm → Value} {w : World} (h : Mind base pb mb own nv K F N V w) : ∀ t ∈ K, ∃ (kb : Int) (b2 : Bool) (a ia oa : Option Addr) (n c il ic ol oc : Nat), V t = .agg #[.int .u8 kb, .slice a n c, .bool (F t).1, .bool b2, .slice ia il ic, .slice oa ol oc] := fun t ht => by
  obtain ⟨pv, iv, ov, hv, hp, hi, ho⟩ := h.rows t ht
  obtain ⟨a, c, rfl⟩ := hp.form
  obtain ⟨ia, ic, rfl⟩ := hi.form
  obtain ⟨oa, oc, rfl⟩ := ho.form
  exact ⟨_, _, _, _, _, _, _, _, _, _, _, hv⟩
/-- A rising list, as an answer. -/
def LiE (F : Tm → Fa) (e : Ending) (w' : World) : Prop := ∃ (A : Option Addr) (c : Nat) (ys : List ByteArray), e = .returned (.slice A ys.length c) ∧ ys.length ≤ c ∧ ys.length ≤ 100000000 ∧ SReads w' A ys ∧ Rising (bl ys) ∧ ∀ x, x ∈ bl ys ↔ (F x).1 = true
set_option maxHeartbeats 16000000 in
set_option maxRecDepth 1000000 in
theorem list_any (lv base pb : Nat) (X : Nat → Prop) (K : List Tm) (F : Tm → Fa) (N : List Tm) (w : World) (h : MindX lv base pb X K F N w) (hK : K.length ≤ 100000000) (hkn : ∀ x, (F x).1 = true → x ∈ K) :
    Calls Try.prog 36 #[.pointer (some ⟨pb, 0, none⟩)] w fun e w' => LiE F e w' ∧ Below w.heap.size w w' := by
  obtain ⟨mb, own, nv, V, hm, _⟩ := h
  obtain ⟨D, hD, hsz, hhas, hat⟩ := hm.map
  have hlt := hm.pb_lt
  have c0 := hm.cell0
  have hml := hm.map.lt
  have HV := Lib.hid hm.value
  have HHAS := Lib.hid hhas
  have HAT := Lib.hid hat
  have HKN := Lib.hid hkn
  have HD := Lib.hid hD
  have HSZ := Lib.hid hsz
  have hmb : mb < w.heap.size := hml
  have HL := lawS
  obtain ⟨i0, hi0, hz0, hz1, hz2⟩ := info_parts str_info
  clear hm hhas hat hkn hD hsz hml
  go_enter Try.func36, Try.ntmps36
  go_wp2_with (first
    | (at_range; refine wpList_range_own _ rfl _ 58 rfl 9 57 HL Try.underlying58 Rv mb K.length D rfl HD.out ?_; intro w0 hrg0 hg0 hs0)
    | go_in)
  go_frame
  have hgw := hg0.block
  have HB0 : Hid (Below w.heap.size w w0) := (Below.refl _ _).grown hg0 (Nat.le_refl _) (fun k e => by cases e)
  have HR0 := Lib.hid hrg0
  have hw1 : w.heap.size + 1 ≤ w0.heap.size := by omega
  have HS0 : Hid (Coll K F (Maps.has D) []) := ⟨by simp [bl], fun x => by
    constructor
    · intro hx; simp [bl] at hx
    · rintro ⟨h1, _, h2⟩; rw [(HHAS.out x).2 h1] at h2; cases h2⟩
  clear hrg0 hg0 hs0 hgw c0
  go_loopw [3] (fun v wr => ∃ (left : Lit → Bool) (cnt : Nat) (ss : List ByteArray), Hid (wr.ranges Try.prog 9 Rv mb w.heap.size K.length D left cnt) ∧ Hid (wr.ownsRow (w.heap.size + 1) 9 1 v ss.length (sv ss)) ∧ Hid (Coll K F left ss) ∧ ss.length + cnt ≤ K.length ∧ Hid (Below w.heap.size w wr) ∧ w.heap.size + 1 ≤ wr.heap.size) (fun _ wr => wr.rangeLeft mb w.heap.size)
  case atStart => exact ⟨_, _, [], HR0, World.ownsRow_nil _ _ _ _, HS0, by rw [HSZ.out]; simp, HB0, hw1⟩
  case round =>
    clear HR0 HS0 HB0 hw1
    obtain ⟨left, cnt, ss, HR, HO, HC, hcnt, HB, hws⟩ := hrel
    obtain ⟨A, c, rfl⟩ := own_value HO.out
    go_wp2_with (at_next; refine wpList_next_ranges _ rfl _ rfl 9 HL Rv Value.string (fun v => v) (fun key kl hk => by obtain ⟨x, hx, _⟩ := Maps.keyOf_str Try.underlying9 hk; exact ⟨_, hx⟩) (fun v y _ => ⟨v, rfl⟩) mb w.heap.size K.length D left cnt rfl HR.out ?_ ?_)
    · intro hc0 hl0
      have HFIN : Hid ((bl ss).Nodup ∧ ∀ x, x ∈ bl ss ↔ (F x).1 = true) := ⟨HC.out.1, fun x => by rw [HC.out.2 x]; exact ⟨fun h => h.2.1, fun h => ⟨HKN.out x h, h, hl0 _⟩⟩⟩
      clear hl0 hc0 HC
      rcases List.eq_nil_or_concat ss with rfl | ⟨ss0, sl, hss⟩
      · go_wp2_with fail
        refine (Try.slices_Sort_string_none A c _).mono ?_
        rintro e w7 ⟨rfl, rfl⟩
        dsimp only
        go_wp2
        go_ret
        refine ⟨⟨A, c, [], rfl, Nat.zero_le _, Nat.zero_le _, SReads.nil _ _, ?_, HFIN.out.2⟩, HB.out⟩
        exact List.Pairwise.nil
      · have hpos : 0 < ss.length := by rw [hss]; simp
        have hr := HO.out
        have HO1 := Lib.hid hr
        obtain ⟨_, hr2⟩ := hr
        rcases hr2 with ⟨_, h0⟩ | ⟨g, cap, cur, hv, hbase, hheap, hn, hcap, hsz, htake⟩
        · omega
        injection hv with ev1 ev2 ev3
        subst ev1 ev3
        have hgl : g < wr.heap.size := (Array.getElem?_eq_some_iff.1 hheap).1
        have hsl : ss.length ≤ 100000000 := by omega
        have hH : Holds encStr wr g 0 (bl ss).toArray := holds_of_block hheap (by rw [bl_len, sv_enc]; rw [Nat.mul_one] at htake; exact htake)
        have HCT := Lib.hid (Try.slices_Sort_string g 0 c (bl ss) wr hH hgl (by rw [bl_len]; omega))
        have HROW : Hid (∀ (n : Nat) (os : Array Obj) (ts : List Tm), ts.length = (bl ss).length → (grow (putRow encStr (Sort.ahead wr n) g 0 ts.toArray) os).ownsRow (w.heap.size + 1) 9 1 (.slice (some ⟨g, 0, none⟩) (bl ss).length c) (bl ss).length (ts.map encStr)) := fun n os ts hl => ownsRow_sorted hl hbase hheap (by rw [bl_len]; exact hn) hcap hsz
        have hgb : w.heap.size ≤ g := by omega
        clear hH hheap htake hsz hss HO1 HR HO
        rw [bl_len] at HCT HROW
        go_wp2_with fail
        refine HCT.out.mono ?_
        rintro e w7 ⟨rfl, nn, os, hw7⟩
        have HLI : Hid (LiE F (.returned (.slice (some ⟨g, 0, none⟩) ss.length c)) w7) := by
          have h1 := HROW.out nn os ((bl ss).mergeSort fun x y => decide (x ≤ y)) (by rw [List.length_mergeSort, bl_len])
          rw [← hw7, sv_unb] at h1
          obtain ⟨r1, r2⟩ := rising_sort HFIN.out.1
          have hl : (unb ((bl ss).mergeSort fun x y => decide (x ≤ y))).length = ss.length := by unfold unb; rw [List.length_map, List.length_mergeSort, bl_len]
          have h2 := sreads_own h1
          refine ⟨some ⟨g, 0, none⟩, c, unb ((bl ss).mergeSort fun x y => decide (x ≤ y)), by rw [hl], by rw [hl]; exact hn, by rw [hl]; exact hsl, h2.1, by rw [bl_unb]; exact r1, fun x => by rw [bl_unb, r2 x]; exact HFIN.out.2 x⟩
        have HB7 : Hid (Below w.heap.size w w7) := by
          rw [hw7]
          exact HB.out.grown (grownBy_sorted _) (by omega) fun k e => by have := Option.some.inj e; omega
        clear hw7 HROW HCT
        dsimp only
        go_wp2
        go_ret
        exact ⟨HLI.out, HB7.out⟩
    · intro s c0 kl yd yp w2 cnt2 hkey hlk hv hat2 hrg2 hlt2 hg2 hs2 hen
      obtain ⟨x', ex, hkl, hxl⟩ := Maps.keyOf_str Try.underlying9 hkey
      have e1 : x' = s.data.toList := by
        have := Value.string.inj ex
        rw [this]
      subst e1
      subst hkl
      have htK : s.data.toList ∈ K := (HHAS.out _).1 (Maps.has_true_of_atKey hat2)
      obtain ⟨kb, b2, a, ia, oa, n, cc, il, ic, ol, oc, hV⟩ := HV.out _ htK
      have hcv : c0 = V s.data.toList := by
        have h1 := (HAT.out _ htK .nil).symm.trans (hat2 .nil)
        have h2 : DataW.held c0 = yd := congrArg Prod.fst (Option.some.inj hv)
        rw [← h2] at h1
        exact (DataW.held.inj h1).symm
      have hs3 : w2.heap.size = wr.heap.size := hs2
      have HO2 : Hid (w2.ownsRow (w.heap.size + 1) 9 1 (.slice A ss.length c) ss.length (sv ss)) := HO.out.kept hg2 (by
        cases hvb : (Value.slice A ss.length c).ownBlock with
        | none => exact .inl rfl
        | some k =>
          refine .inr fun e => ?_
          have h1 := (HO.out.lt k hvb).1
          have h2 := Option.some.inj e
          omega)
      have HB2 : Hid (Below w.heap.size w w2) := HB.out.grown hg2 (by omega) (fun k e => by have := Option.some.inj e; omega)
      have hws2 : w.heap.size + 1 ≤ w2.heap.size := by omega
      have HRG := Lib.hid hrg2
      have HLK := Lib.hid hlk
      have HTK := Lib.hid htK
      clear hs2 hs3 hrg2 hg2 hlk hat2 hv hkey ex hxl htK
      cases hf : (F s.data.toList).1 with
      | false =>
        rw [hf] at hV
        rw [hV] at hcv
        subst hcv
        have HF := Lib.hid hf
        clear hV hf
        go_wp2
        go_roundw
        case rel =>
          exact ⟨_, cnt2, ss, HRG.out.alloc _, HO2.out.alloc _, coll_no HC.out HF.out, by omega, HB2.out.alloc (by omega) _, by simp; omega⟩
        case measure =>
          rw [(HRG.out.alloc _).left_eq, HR.out.left_eq]; exact hlt2
      | true =>
        rw [hf] at hV
        rw [hV] at hcv
        subst hcv
        have HF := Lib.hid hf
        have hsl : ss.length ≤ 100000000 := by omega
        clear hV hf
        go_wp2_with (
          at_builtin
          refine wpList_append_lies _ rfl _ _ _ rfl (w.heap.size + 1) 9 i0 _ 1 16 Try.underlying22 hi0 hz0 hz1 hz2 rfl (by decide) _ ss.length (sv ss) rfl ((HO2.out.alloc _).alloc _) _ 1 1 [.string s] rfl rfl (lit_cells_at _ _ _ _ (by simp)) (sv_one [s]) (by decide) (by simp only [maxLen]; omega) (by omega) ?h6 _ rfl ?_
          case h6 => simp; omega
          intro gg cap2 w6 hown6 hgrow6 hat6 hlt6
          have HO6 := Lib.hid hown6
          have HG6 := Lib.hid hgrow6
          clear hown6 hgrow6 hat6)
        go_roundw
        case rel =>
          refine ⟨_, cnt2, ss ++ [s], ((HRG.out.alloc _).alloc _).kept HG6.out (row_ne_low HO2.out (by omega)) (row_ne_low HO2.out (by omega)), ?_, coll_yes HC.out HTK.out HF.out HLK.out, by rw [List.length_append, List.length_singleton]; omega, ?_, ?_⟩
          · have := HO6.out
            show World.ownsRow _ _ _ _ _ _ _
            rw [List.length_append, List.length_singleton]
            simpa [sv] using this
          · exact (((HB2.out.alloc (by omega) _).alloc (by simp; omega) _).grown HG6.out (by simp; omega) fun k e => by have := (HO2.out.lt k e).1; omega)
          · have := HG6.out.size
            simp at this
            omega
        case measure =>
          rw [(((HRG.out.alloc _).alloc _).kept HG6.out (row_ne_low HO2.out (by omega)) (row_ne_low HO2.out (by omega))).left_eq, HR.out.left_eq]; exact hlt2
end Go.Proofs.Ytcplagomhfdoaaa.Clo
