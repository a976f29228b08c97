/-
  THE WALK OF NameLess. By an AI agent; no person has read it.
-/
import Derived.Test.YtgnfnbmdjbmcfaaCuts
import Derived.Test.YtgnfnbmdjbmcfaaOrder
import Derived.Test.YtgnfnbmdjbmcfaaLess
import Derived.Laws.AppendOwnNone
namespace Go.Proofs.Ytgnfnbmdjbmcfaa
open Go.RowKit Txt

theorem info64 : (Try.prog.info? 3).map (fun i => (i.zero, i.size, i.bytes)) = some (some (.int .i64 0), 1, 8) := by kernel_rfl

/-- 'append(own, came in...)', the slice that came in nil or not: an own row of both; below the base all stands. -/
theorem append_reads {w : World} {ops : Array Oper} {rest : List Oper} {o : Oper} {a : Act} {Q : Exit → Act → World → Prop} (hgd : o.guard = none) (s x : Operand)
    (ho : o.op = .call { callee := .builtin .append, args := #[s, x], argTypes := #[38, 38] }) (base : Nat)
    (v : Value) (xs zs : List Int) (hs : a.eval s = v) (hown : w.ownsRow base 3 1 v xs.length (xs.map (Value.int .i64)))
    (b : Option Addr) (c : Nat) (hx : a.eval x = .slice b zs.length c) (hnil : b = none → c = 0) (hr : Reads .i64 w b zs)
    (hlen : xs.length + zs.length ≤ 4194304) (hbase : base ≤ w.heap.size)
    (h : ∀ v' w', w'.ownsRow base 3 1 v' (xs.length + zs.length) ((xs ++ zs).map (Value.int .i64)) → Below base w w' → wpList Try.prog ops Q rest (a.put o.dst v') w') : wpList Try.prog ops Q (o :: rest) a w := by
  obtain ⟨i0, hi, hz0, hz1, hz2⟩ := info_parts info64
  cases b with
  | none =>
    have hz : zs = [] := by
      cases zs with
      | nil => rfl
      | cons z t => obtain ⟨_, _, he, _⟩ := hr 0 (by simp); cases he
    subst hz
    rw [hnil rfl] at hx
    refine wpList_append_own_none hgd s x 38 ho base 3 i0 1 Try.underlying38 hi v xs.length (xs.map (Value.int .i64)) hs hown hx ?_
    exact h v w (by simpa using hown) (Below.refl _ _)
  | some ad =>
    refine wpList_append_own _ hgd s x 38 ho base 3 i0 (.int .i64 0) 1 8 Try.underlying38 hi hz0 hz1 hz2 rfl (by decide) v xs.length (xs.map (Value.int .i64)) hs hown ad zs.length c (zs.map (Value.int .i64)) hx (by simp) ?_ ?_ (by unfold maxLen; omega) (by omega) hbase ?_
    · intro j u hj
      have hjl : j < zs.length := by have := (List.getElem?_eq_some_iff.1 hj).1; simpa using this
      obtain ⟨b', o', he, _, hc⟩ := hr j hjl
      obtain rfl := Option.some.inj he
      have hu : u = .int .i64 (zs.getD j 0) := by
        simp [hjl] at hj
        rw [← hj]; simp [List.getD, hjl]
      rw [hu, show ((⟨b', o', none⟩ : Addr).add j) = ⟨b', o' + j, none⟩ from by unfold Addr.add; split <;> simp_all]
      exact hc
    · intro u hu
      obtain ⟨z, _, rfl⟩ := List.mem_map.1 hu
      rfl
    · intro v' w' hown' hgrow _
      exact h v' w' (by rw [List.map_append]; exact hown') (Below.grown (Below.refl _ _) hgrow hbase fun k hk => (hown.lt k hk).1)

/-- A nil slice that came in has no room. -/
theorem nil_of {k : IntKind} {w : World} {a : Option Addr} {len cap : Nat} {zs : List Int}
    (h : (a = none ∧ len = 0 ∧ cap = 0 ∧ zs = []) ∨ ∃ x, a = some x ∧ len ≤ cap ∧ cap ≤ maxLen ∧ zs.length = cap ∧ (∀ i, i < zs.length → w.cell? (x.add i) = some (.int k (zs.getD i 0))) ∧ ∀ n ∈ zs, (Lit.int k n).wf = true) : a = none → cap = 0 := by
  rintro rfl
  rcases h with ⟨_, _, rfl, _⟩ | ⟨x, hx, _⟩
  · rfl
  · cases hx
theorem named_len (a : Option Addr) (cap : Nat) (zs : List Int) {n : Nat} (w : World) (hl : zs.length = n) (hr : Reads .i64 w a zs) (hwf : ∀ z ∈ zs, (Lit.int .i64 z).wf = true) :
    Calls Try.prog 28 #[.slice a n cap] w fun e w' => ∃ X : ByteArray, e = .returned (.string X) ∧ right X.data.toList = true ∧ X.size ≤ 128 ∧ Below w.heap.size w w' := by
  subst hl
  exact named_call a cap zs w hr hwf
theorem take_more {a b : List Int} {k : Nat} (h1 : k < a.length) (h2 : k < b.length) (ht : a.take k = b.take k) (he : a.getD k 0 = b.getD k 0) : a.take (k + 1) = b.take (k + 1) := by
  rw [List.take_succ_eq_append_getElem h1, List.take_succ_eq_append_getElem h2, ht]
  have e1 : a.getD k 0 = a[k] := by simp [List.getD, h1]
  have e2 : b.getD k 0 = b[k] := by simp [List.getD, h2]
  rw [e1, e2] at he
  rw [he]
theorem own_empty (w : World) : (w.alloc (.cells #[] 3)).ownsRow w.heap.size 3 1 (.slice (some ⟨w.heap.size, 0, none⟩) 0 0) 0 [] := by
  have := World.ownsRow_lit (base := w.heap.size) (e := 3) (size := 1) w #[] 0 (Nat.le_refl _) (by decide) (by decide)
  simpa using this

set_option maxHeartbeats 2000000 in
set_option maxRecDepth 1000000 in
theorem less_walk (a0 : Option Addr) (c0 : Nat) (l0 : List Int) (a1 : Option Addr) (c1 : Nat) (l1 : List Int) (a2 : Option Addr) (c2 : Nat) (l2 : List Int) (w : World)
    (r0 : Reads .i64 w a0 l0) (wf0 : ∀ z ∈ l0, (Lit.int .i64 z).wf = true) (n0 : a0 = none → c0 = 0) (s0 : l0.length ≤ 1048576)
    (r1 : Reads .i64 w a1 l1) (wf1 : ∀ z ∈ l1, (Lit.int .i64 z).wf = true) (n1 : a1 = none → c1 = 0) (s1 : l1.length ≤ 1048576)
    (r2 : Reads .i64 w a2 l2) (wf2 : ∀ z ∈ l2, (Lit.int .i64 z).wf = true) (n2 : a2 = none → c2 = 0) (s2 : l2.length ≤ 1048576) :
    Calls Try.prog 7 #[.slice a0 l0.length c0, .slice a1 l1.length c1, .slice a2 l2.length c2] w fun e w' => e = .returned (.bool true) ∧ Below w.heap.size w w' := by
  have R0 := Lib.hid r0; have R1 := Lib.hid r1; have R2 := Lib.hid r2
  have W0 := Lib.hid wf0; have W1 := Lib.hid wf1; have W2 := Lib.hid wf2
  have N0 := Lib.hid n0; have N1 := Lib.hid n1; have N2 := Lib.hid n2
  clear r0 r1 r2 wf0 wf1 wf2 n0 n1 n2
  go_enter Try.func7, Try.ntmps7
  go_wp2_with fail
  refine (shown_any _).mono ?_
  rintro e w1 ⟨rfl, B1⟩
  have HE := Lib.hid (own_empty w1)
  have A1 := R2.out.below (B1.alloc B1.size (.cells #[] 3))
  have HA1 := Lib.hid A1
  have hsz1 := B1.size
  clear A1
  go_wp2_with (at_builtin; refine append_reads rfl _ _ rfl w1.heap.size _ [] l2 rfl HE.out a2 c2 rfl N2.out HA1.out (by simp; omega) (by simp) ?_)
  intro v1 w12 hown1 hb1

  have hbw1 : Below w.heap.size w w12 := (B1.alloc B1.size (.cells #[] 3)).trans (hb1.mono B1.size)
  have HO1 := Lib.hid hown1
  have HR1 := Lib.hid (R0.out.below hbw1)
  have hz1 : w1.heap.size ≤ w12.heap.size := by have := hb1.size; simp at this; omega
  clear hown1 hb1 HE HA1 B1
  go_wp2_with (at_builtin; refine append_reads rfl _ _ rfl w1.heap.size _ l2 l0 rfl HO1.out a0 c0 rfl N0.out HR1.out (by omega) hz1 ?_)
  intro v1b w13 hown1b hb1b
  rw [← List.map_append] at hown1b
  obtain ⟨hl1, x1, xc1, rfl, _, hrd1⟩ := own_reads hown1b
  have HRD1 := Lib.hid hrd1
  have HL1 := Lib.hid hl1
  have hb1c : Below w.heap.size w w13 := hbw1.trans (hb1b.mono hsz1)
  clear hown1b hb1b hrd1 hl1 hbw1 HO1 HR1 hz1
  go_wp2_with fail
  have hnm1 := named_len x1 xc1 (l2 ++ l0) w13 (n := l2.length + l0.length) (by rw [List.length_append]) HRD1.out (fun z hz => by
    rcases List.mem_append.1 hz with h | h
    · exact W2.out z h
    · exact W0.out z h)
  refine hnm1.mono ?_
  clear hnm1
  rintro e w14 ⟨X, rfl, hX, sX, b14⟩
  have B14 := hb1c.trans (b14.mono hb1c.size)
  have HX := Lib.hid hX
  have HE := Lib.hid (own_empty w14)
  have HA1 := Lib.hid (R2.out.below (B14.alloc B14.size (.cells #[] 3)))
  have hsz2 := B14.size
  clear hX b14 hb1c HRD1 HL1
  go_wp2_with (at_builtin; refine append_reads rfl _ _ rfl w14.heap.size _ [] l2 rfl HE.out a2 c2 rfl N2.out HA1.out (by simp; omega) (by simp) ?_)
  intro v2 w22 hown2 hb2

  have hbw2 : Below w.heap.size w w22 := (B14.alloc B14.size (.cells #[] 3)).trans (hb2.mono B14.size)
  have HO2 := Lib.hid hown2
  have HR2 := Lib.hid (R1.out.below hbw2)
  have hz2 : w14.heap.size ≤ w22.heap.size := by have := hb2.size; simp at this; omega
  clear hown2 hb2 HE HA1 B14
  go_wp2_with (at_builtin; refine append_reads rfl _ _ rfl w14.heap.size _ l2 l1 rfl HO2.out a1 c1 rfl N1.out HR2.out (by omega) hz2 ?_)
  intro v2b w23 hown2b hb2b
  rw [← List.map_append] at hown2b
  obtain ⟨hl2, x2, xc2, rfl, _, hrd2⟩ := own_reads hown2b
  have HRD2 := Lib.hid hrd2
  have HL2 := Lib.hid hl2
  have hb2c : Below w.heap.size w w23 := hbw2.trans (hb2b.mono hsz2)
  clear hown2b hb2b hrd2 hl2 hbw2 HO2 HR2 hz2
  go_wp2_with fail
  have hnm2 := named_len x2 xc2 (l2 ++ l1) w23 (n := l2.length + l1.length) (by rw [List.length_append]) HRD2.out (fun z hz => by
    rcases List.mem_append.1 hz with h | h
    · exact W2.out z h
    · exact W1.out z h)
  refine hnm2.mono ?_
  clear hnm2
  rintro e w24 ⟨Y, rfl, hY, sY, b24⟩
  have B24 := hb2c.trans (b24.mono hb2c.size)
  have HY := Lib.hid hY
  clear hY b24 hb2c HRD2 HL2
  go_wp2_with fail
  refine (runes_name X _ HX.out).mono ?_
  rintro e w31 ⟨rs, ra, rcap, hr1, hr2, hr3, hr4, hr5, rfl, hrc, hrr, b31⟩
  have B31 := B24.trans (b31.mono B24.size)
  clear B24 b31
  go_wp2_with fail
  refine (runes_name Y _ HY.out).mono ?_
  rintro e w32 ⟨qs, qa, qcap, hq1, hq2, hq3, hq4, hq5, rfl, hqc, hqr, b32⟩
  have B32 := B31.trans (b32.mono B31.size)
  have HRR := Lib.hid (hrr.below b32)
  have HQR := Lib.hid hqr
  have HV1 : Hid (∀ r ∈ rs, Lib.validRune r = true) := Lib.hid fun r hr => letter_valid (hr4 r hr)
  have HV2 : Hid (∀ r ∈ qs, Lib.validRune r = true) := Lib.hid fun r hr => letter_valid (hq4 r hr)
  have HR5 := Lib.hid hr5
  have HQ5 := Lib.hid hq5
  clear B31 b32 hrr hqr hr1 hr4 hr5 hq1 hq4 hq5 hrc hqc
  go_wp2_with fail
  obtain ⟨d, hd⟩ : ∃ d, decide (rs.length < qs.length) = d := ⟨_, rfl⟩
  have HD := Lib.hid hd
  clear hd
  go_loopw [14, 15] (fun t i wr => ∃ k : Nat, k ≤ rs.length ∧ k ≤ qs.length ∧ i = .int .i64 k ∧ t = .bool d ∧ rs.take k = qs.take k ∧ Below w32.heap.size w32 wr) (fun _ i _ => rs.length - (intOf i).toNat)
  case atStart => exact ⟨0, Nat.zero_le _, Nat.zero_le _, rfl, by rw [HD.out], rfl, Below.refl _ _⟩
  case round =>
    obtain ⟨k, hk1, hk2, rfl, rfl, htk, hbel⟩ := hrel
    have BK := B32.trans (hbel.mono B32.size)
    have HTK := Lib.hid htk
    clear htk
    by_cases hlt : k < rs.length ∧ k < qs.length
    · obtain ⟨hlt1, hlt2⟩ := hlt
      obtain ⟨b1, o1, rfl, l1', cc1⟩ := (HRR.out.below hbel) k hlt1
      obtain ⟨b2, o2, rfl, l2', cc2⟩ := (HQR.out.below hbel) k hlt2
      obtain ⟨z1, hz1⟩ : ∃ z, rs.getD k 0 = z := ⟨_, rfl⟩
      obtain ⟨z2, hz2⟩ : ∃ z, qs.getD k 0 = z := ⟨_, rfl⟩
      rw [hz1] at cc1
      rw [hz2] at cc2
      have HZ1 := Lib.hid hz1
      have HZ2 := Lib.hid hz2
      have k0 : (0 : Int) ≤ ↑k := by omega
      have k1 : (↑k : Int) < ↑rs.length := by omega
      have k2 : (↑k : Int) < ↑qs.length := by omega
      clear hz1 hz2 l1' l2'
      by_cases hz : z1 = z2
      · subst hz
        have hne : (z1 != z1) = false := by simp
        go_wp2_with fail
        go_quiet (fail)
        go_wp2
        go_roundw
        case rel => exact ⟨k + 1, by omega, by omega, by go_num, rfl, take_more hlt1 hlt2 HTK.out (HZ1.out.trans HZ2.out.symm), below_drewN hbel _⟩
        case measure => simp [intOf]; omega
      · have hne : (z1 != z2) = true := by rw [bne_iff_ne]; exact hz
        have hla := less_at HV1.out HV2.out hlt1 hlt2 HTK.out (by rw [HZ1.out, HZ2.out]; exact hz)
        rw [HR5.out, HQ5.out, HZ1.out, HZ2.out] at hla
        by_cases hzl : z1 < z2
        · rw [decide_eq_true hzl] at hla
          have HT := Lib.hid hla
          have hzd : decide (z1 < z2) = true := decide_eq_true hzl
          clear hla hz
          go_wp2_with fail
          go_quiet (fail)
          go_wp2_with fail
          go_quiet (fail)
          have hne := ne_bool (s := X) (t := Y) (fun he => by have h5 := HT.out; rw [he, less_irrefl] at h5; cases h5)
          go_wp2_with fail
          refine (less_call X Y true HT.out _).mono ?_
          rintro e w41 ⟨rfl, rfl⟩
          go_wp2_with fail
          refine (less_call Y X false (less_asymm _ _ HT.out) _).mono ?_
          rintro e w42 ⟨rfl, rfl⟩
          go_wp2_with fail
          go_ret
          exact ⟨rfl, by first | exact BK | exact below_drewN BK _⟩
        · rw [decide_eq_false hzl] at hla
          have HT := Lib.hid hla
          have hzd : decide (z1 < z2) = false := decide_eq_false hzl
          clear hla hz
          go_wp2_with fail
          go_quiet (fail)
          go_wp2_with fail
          go_quiet (fail)
          cases hu : Op.bytesLess Y.data.toList X.data.toList with
          | true =>
            have HU := Lib.hid hu
            have hne := ne_bool (s := X) (t := Y) (fun he => by have h5 := HU.out; rw [he, less_irrefl] at h5; cases h5)
            clear hu
            go_wp2_with fail
            refine (less_call X Y false HT.out _).mono ?_
            rintro e w41 ⟨rfl, rfl⟩
            go_wp2_with fail
            refine (less_call Y X true HU.out _).mono ?_
            rintro e w42 ⟨rfl, rfl⟩
            go_wp2_with fail
            go_ret
            exact ⟨rfl, by first | exact BK | exact below_drewN BK _⟩
          | false =>
            have HU := Lib.hid hu
            have heq := eq_bool (s := X) (t := Y) (less_total _ _ HT.out HU.out)
            clear hu
            go_wp2_with fail
            refine (less_call X Y false HT.out _).mono ?_
            rintro e w41 ⟨rfl, rfl⟩
            go_wp2_with fail
            refine (less_call Y X false HU.out _).mono ?_
            rintro e w42 ⟨rfl, rfl⟩
            go_wp2_with fail
            go_ret
            exact ⟨rfl, by first | exact BK | exact below_drewN BK _⟩
    · have hend := less_end hk1 hk2 (by omega) HTK.out
      rw [HR5.out, HQ5.out, HD.out] at hend
      have hor : k = rs.length ∨ (k = qs.length ∧ qs.length < rs.length) := by omega
      clear hlt
      cases d with
      | true =>
        have HT := Lib.hid hend
        clear hend
        rcases hor with rfl | ⟨rfl, h7⟩
        · skip
          have hne := ne_bool (s := X) (t := Y) (fun he => by have h5 := HT.out; rw [he, less_irrefl] at h5; cases h5)
          go_wp2_with fail
          refine (less_call X Y true HT.out _).mono ?_
          rintro e w41 ⟨rfl, rfl⟩
          go_wp2_with fail
          refine (less_call Y X false (less_asymm _ _ HT.out) _).mono ?_
          rintro e w42 ⟨rfl, rfl⟩
          go_wp2_with fail
          go_ret
          exact ⟨rfl, by first | exact BK | exact below_drewN BK _⟩
        · have h5 := of_decide_eq_true HD.out
          omega
      | false =>
        have HT := Lib.hid hend
        clear hend
        rcases hor with rfl | ⟨rfl, h7⟩
        · skip
          cases hu : Op.bytesLess Y.data.toList X.data.toList with
          | true =>
            have HU := Lib.hid hu
            have hne := ne_bool (s := X) (t := Y) (fun he => by have h5 := HU.out; rw [he, less_irrefl] at h5; cases h5)
            clear hu
            go_wp2_with fail
            refine (less_call X Y false HT.out _).mono ?_
            rintro e w41 ⟨rfl, rfl⟩
            go_wp2_with fail
            refine (less_call Y X true HU.out _).mono ?_
            rintro e w42 ⟨rfl, rfl⟩
            go_wp2_with fail
            go_ret
            exact ⟨rfl, by first | exact BK | exact below_drewN BK _⟩
          | false =>
            have HU := Lib.hid hu
            have heq := eq_bool (s := X) (t := Y) (less_total _ _ HT.out HU.out)
            clear hu
            go_wp2_with fail
            refine (less_call X Y false HT.out _).mono ?_
            rintro e w41 ⟨rfl, rfl⟩
            go_wp2_with fail
            refine (less_call Y X false HU.out _).mono ?_
            rintro e w42 ⟨rfl, rfl⟩
            go_wp2_with fail
            go_ret
            exact ⟨rfl, by first | exact BK | exact below_drewN BK _⟩
        · skip
          cases hu : Op.bytesLess Y.data.toList X.data.toList with
          | true =>
            have HU := Lib.hid hu
            have hne := ne_bool (s := X) (t := Y) (fun he => by have h5 := HU.out; rw [he, less_irrefl] at h5; cases h5)
            clear hu
            go_wp2_with fail
            refine (less_call X Y false HT.out _).mono ?_
            rintro e w41 ⟨rfl, rfl⟩
            go_wp2_with fail
            refine (less_call Y X true HU.out _).mono ?_
            rintro e w42 ⟨rfl, rfl⟩
            go_wp2_with fail
            go_ret
            exact ⟨rfl, by first | exact BK | exact below_drewN BK _⟩
          | false =>
            have HU := Lib.hid hu
            have heq := eq_bool (s := X) (t := Y) (less_total _ _ HT.out HU.out)
            clear hu
            go_wp2_with fail
            refine (less_call X Y false HT.out _).mono ?_
            rintro e w41 ⟨rfl, rfl⟩
            go_wp2_with fail
            refine (less_call Y X false HU.out _).mono ?_
            rintro e w42 ⟨rfl, rfl⟩
            go_wp2_with fail
            go_ret
            exact ⟨rfl, by first | exact BK | exact below_drewN BK _⟩
end Go.Proofs.Ytgnfnbmdjbmcfaa
