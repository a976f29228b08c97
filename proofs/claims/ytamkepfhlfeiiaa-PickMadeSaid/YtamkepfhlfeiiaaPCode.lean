/-
  THE LANDED CODE's package pick is what PickOK asks, over any store that is StoreOK. By an AI agent; no person has read it.
-/
import Derived.Test.YtamkepfhlfeiiaaKTelP
import Derived.Test.YtamkepfhlfeiiaaKPure
import Derived.Deep.QuietTactic
import Derived.BigQuiet
import Derived.Laws.EntriesVeiled
namespace Go.Proofs.Ytamkepfhlfeiiaa.Sto
open Go Go.RowKit Wire

set_option linter.unusedVariables false
set_option linter.unusedSimpArgs false
section
variable {D : DPred} {a : Addr} {X : Nat → Prop} {s : Stt} {w : World}
set_option maxHeartbeats 4000000 in
set_option maxRecDepth 1000000 in
theorem gone_c (K : ByteArray) (kd bk : Int) (Y Z : ByteArray) (p : Option Addr) (w : World) : Calls Try.prog 40 #[.pointer p, .string K, .agg #[.int .u8 kd, .int .i64 bk, .string Y, .string Z]] w fun e w' => Sr none4 e ∧ Below w.heap.size w w' := by
  go_enter Try.func40, Try.ntmps40
  go_wp2_with fail
  go_ret2
  exact ⟨⟨⟨#[]⟩, rfl, rfl⟩, (Below.refl w.heap.size w).alloc (Nat.le_refl _) _⟩
set_option maxHeartbeats 4000000 in
set_option maxRecDepth 1000000 in
theorem honest_c (d : StoreOK D) (h : D w a X s) (hf : Fine s) (K : ByteArray) (kd bk : Int) (Y Z : ByteArray) (hK : K.size ≤ 140737488351232) (hc : Ch.Ok ⟨kd, bk, Y, Z⟩) : Calls Try.prog 44 #[.pointer (some a), .string K, .agg #[.int .u8 kd, .int .i64 bk, .string Y, .string Z]] w fun e w' => Sr (getS s K.data.toList) e ∧ Below w.heap.size w w' := by
  obtain ⟨w0, hst⟩ := sts_any h hf
  have HSA := Lib.hid hst
  obtain ⟨hkd, hbk, hy1, hy2⟩ := hc
  simp only at hkd hbk hy1 hy2
  clear h hf hst
  go_enter Try.func44, Try.ntmps44
  go_wp2_with fail
  have hbS : Below w.heap.size w (w.alloc (.cells #[.int .u8 kd, .int .i64 bk, .string Y, .string Z] 24)) := (Below.refl w.heap.size w).alloc (Nat.le_refl _) _
  have hxS := b4_new w (.int .u8 kd) (.int .i64 bk) (.string Y) (.string Z) 24
  generalize w.alloc (.cells #[.int .u8 kd, .int .i64 bk, .string Y, .string Z] 24) = wSc at hbS hxS ⊢
  have HB1 := Lib.hid hbS
  replace HSA := Lib.hid (HSA.out.below d hbS)
  have HXc := Lib.hid hxS
  clear hbS hxS
  with_reducible refine (st_get d HSA.out (k := K.data.toList) rfl hK).mono ?_
  rintro e w2 ⟨⟨T, hT, rfl⟩, hb2⟩
  have HB2 := Lib.hid (bel_call HB1.out hb2)
  clear hb2
  try dsimp only
  go_wp2
  go_ret2
  exact ⟨⟨T, hT, rfl⟩, HB2.out⟩
set_option maxHeartbeats 4000000 in
set_option maxRecDepth 1000000 in
theorem other_c (d : StoreOK D) (h : D w a X s) (hf : Fine s) (K : ByteArray) (kd bk : Int) (Y Z : ByteArray) (hK : K.size ≤ 140737488351232) (hc : Ch.Ok ⟨kd, bk, Y, Z⟩) : Calls Try.prog 42 #[.pointer (some a), .string K, .agg #[.int .u8 kd, .int .i64 bk, .string Y, .string Z]] w fun e w' => Sr (getS s Y.data.toList) e ∧ Below w.heap.size w w' := by
  obtain ⟨w0, hst⟩ := sts_any h hf
  have HSA := Lib.hid hst
  obtain ⟨hkd, hbk, hy1, hy2⟩ := hc
  simp only at hkd hbk hy1 hy2
  clear h hf hst
  go_enter Try.func42, Try.ntmps42
  go_wp2_with fail
  have hbS : Below w.heap.size w (w.alloc (.cells #[.int .u8 kd, .int .i64 bk, .string Y, .string Z] 24)) := (Below.refl w.heap.size w).alloc (Nat.le_refl _) _
  have hxS := b4_new w (.int .u8 kd) (.int .i64 bk) (.string Y) (.string Z) 24
  generalize w.alloc (.cells #[.int .u8 kd, .int .i64 bk, .string Y, .string Z] 24) = wSc at hbS hxS ⊢
  have HB1 := Lib.hid hbS
  replace HSA := Lib.hid (HSA.out.below d hbS)
  have HXc := Lib.hid hxS
  clear hbS hxS
  obtain ⟨nc, dc0, dc1, dc2, dc3⟩ := HXc.out
  go_wp2_with fail
  clear nc dc0 dc1 dc2 dc3
  with_reducible refine (st_get d HSA.out (k := Y.data.toList) rfl hy1).mono ?_
  rintro e w2 ⟨⟨T, hT, rfl⟩, hb2⟩
  have HB2 := Lib.hid (bel_call HB1.out hb2)
  clear hb2
  try dsimp only
  go_wp2
  go_ret2
  exact ⟨⟨T, hT, rfl⟩, HB2.out⟩
set_option maxHeartbeats 4000000 in
set_option maxRecDepth 1000000 in
theorem made_c (K : ByteArray) (kd bk : Int) (Y Z : ByteArray) (p : Option Addr) (w : World) : Calls Try.prog 43 #[.pointer p, .string K, .agg #[.int .u8 kd, .int .i64 bk, .string Y, .string Z]] w fun e w' => Sr (if 40000 < Z.size then ([], 10) else (Z.data.toList, 0)) e ∧ Below w.heap.size w w' := by
  by_cases h4 : 40000 < Z.size
  · rw [if_pos h4]
    have h4i : (40000 : Int) < (Z.size : Int) := by omega
    go_enter Try.func43, Try.ntmps43
    go_wp2_with fail
    have hbS : Below w.heap.size w (w.alloc (.cells #[.int .u8 kd, .int .i64 bk, .string Y, .string Z] 24)) := (Below.refl w.heap.size w).alloc (Nat.le_refl _) _
    have hxS := b4_new w (.int .u8 kd) (.int .i64 bk) (.string Y) (.string Z) 24
    generalize w.alloc (.cells #[.int .u8 kd, .int .i64 bk, .string Y, .string Z] 24) = wSc at hbS hxS ⊢
    have HB1 := Lib.hid hbS
    clear hbS
    obtain ⟨nc, dc0, dc1, dc2, dc3⟩ := hxS
    go_wp2_with fail
    go_ret2
    exact ⟨⟨⟨#[]⟩, rfl, rfl⟩, HB1.out⟩
  · rw [if_neg h4]
    have h4i : ¬ (40000 : Int) < (Z.size : Int) := by omega
    go_enter Try.func43, Try.ntmps43
    go_wp2_with fail
    have hbS : Below w.heap.size w (w.alloc (.cells #[.int .u8 kd, .int .i64 bk, .string Y, .string Z] 24)) := (Below.refl w.heap.size w).alloc (Nat.le_refl _) _
    have hxS := b4_new w (.int .u8 kd) (.int .i64 bk) (.string Y) (.string Z) 24
    generalize w.alloc (.cells #[.int .u8 kd, .int .i64 bk, .string Y, .string Z] 24) = wSc at hbS hxS ⊢
    have HB1 := Lib.hid hbS
    clear hbS
    obtain ⟨nc, dc0, dc1, dc2, dc3⟩ := hxS
    go_wp2_with fail
    go_ret2
    exact ⟨⟨Z, rfl, rfl⟩, HB1.out⟩
set_option maxHeartbeats 4000000 in
set_option maxRecDepth 1000000 in
theorem stale_c (d : StoreOK D) (h : D w a X s) (hf : Fine s) (K : ByteArray) (kd bk : Int) (Y Z : ByteArray) (hK : K.size ≤ 140737488351232) (hc : Ch.Ok ⟨kd, bk, Y, Z⟩) : Calls Try.prog 38 #[.pointer (some a), .string K, .agg #[.int .u8 kd, .int .i64 bk, .string Y, .string Z]] w fun e w' => Sr (pickG s K.data.toList ⟨115, bk, Y, Z⟩) e ∧ Below w.heap.size w w' := by
  obtain ⟨w0, hst⟩ := sts_any h hf
  have HSA := Lib.hid hst
  obtain ⟨hkd, hbk, hy1, hy2⟩ := hc
  simp only at hkd hbk hy1 hy2
  clear h hf hst
  go_enter Try.func38, Try.ntmps38
  go_wp2_with fail
  have hbS : Below w.heap.size w (w.alloc (.cells #[.int .u8 kd, .int .i64 bk, .string Y, .string Z] 24)) := (Below.refl w.heap.size w).alloc (Nat.le_refl _) _
  have hxS := b4_new w (.int .u8 kd) (.int .i64 bk) (.string Y) (.string Z) 24
  generalize w.alloc (.cells #[.int .u8 kd, .int .i64 bk, .string Y, .string Z] 24) = wSc at hbS hxS ⊢
  have HB1 := Lib.hid hbS
  replace HSA := Lib.hid (HSA.out.below d hbS)
  have HXc := Lib.hid hxS
  clear hbS hxS
  obtain ⟨nc, dc0, dc1, dc2, dc3⟩ := HXc.out
  go_wp2_with fail
  clear nc dc0 dc1 dc2 dc3
  with_reducible refine (st_vers d HSA.out (k := K.data.toList) rfl hK).mono ?_
  rintro e w2 ⟨hx, hb2⟩
  have HB2 := Lib.hid (bel_call HB1.out hb2)
  replace HSA := Lib.hid (HSA.out.below d hb2)
  replace HXc := Lib.hid (HXc.out.below hb2)
  clear hb2
  obtain ⟨AV, cV, YV, hq, hc, hr, ho, rfl⟩ := hx
  have HQV := Lib.hid hq
  have HCV := Lib.hid hc
  have HRV : Hid (RowO _ _ _ AV YV) := Lib.hid ⟨hr, ho⟩
  clear hq hc hr ho
  try dsimp only
  have hmany := HSA.out.f.many K.data.toList
  have hfew := HSA.out.f.few
  have hlv : YV.length ≤ 2000 := by rw [← bl_len, HQV.out]; omega
  clear hmany hfew
  by_cases hn : bk < 0
  · have HPI := Lib.hid (@pick_neg s K.data.toList bk Y Z hn)
    obtain ⟨nc, dc0, dc1, dc2, dc3⟩ := HXc.out
    go_wp2_with fail
    go_ret2
    refine ⟨?_, HB2.out⟩
    rw [HPI.out]
    exact ⟨⟨#[]⟩, rfl, rfl⟩
  by_cases hm : (YV.length : Int) ≤ bk
  · have HPI := Lib.hid (pick_far (Y := Y) (Z := Z) HQV.out hm)
    obtain ⟨nc, dc0, dc1, dc2, dc3⟩ := HXc.out
    go_wp2_with fail
    go_ret2
    refine ⟨?_, HB2.out⟩
    rw [HPI.out]
    exact ⟨⟨#[]⟩, rfl, rfl⟩
  · obtain ⟨b, rfl⟩ : ∃ b : Nat, bk = (b : Int) := ⟨bk.toNat, by omega⟩
    obtain ⟨m, hm2⟩ : ∃ m, YV.length = m + 1 + b := ⟨YV.length - 1 - b, by omega⟩
    have HPI := Lib.hid (pick_in (Y := Y) (Z := Z) HQV.out rfl hm2)
    obtain ⟨bv, ov, hAV, hbv, hcv⟩ := HRV.out.r m (by omega)
    subst hAV
    generalize YV.getD m ByteArray.empty = ym at hcv HPI
    have hidx : (YV.length : Int) - 1 - (b : Int) = (m : Int) := by omega
    have hb0 : (0 : Int) ≤ (b : Int) := by omega
    have hml : (m : Int) < (YV.length : Int) := by omega
    have hm0 : (0 : Int) ≤ (m : Int) := by omega
    clear HRV HQV
    generalize YV.length = n at *
    obtain ⟨nc, dc0, dc1, dc2, dc3⟩ := HXc.out
    go_wp2_with fail
    go_ret2
    refine ⟨?_, HB2.out⟩
    rw [HPI.out]
    exact ⟨ym, rfl, rfl⟩
set_option maxHeartbeats 4000000 in
set_option maxRecDepth 1000000 in
theorem keys_c (d : StoreOK D) (h : D w a X s) (hf : Fine s) (K : ByteArray) (hK : K.size ≤ 140737488351232) : Calls Try.prog 39 #[.pointer (some a), .string K] w fun e w' => (∃ l, Lists s K.data.toList l ∧ Row w w' l e) ∧ Below w.heap.size w w' := by
  have HL := Lib.hid (d.list a X s K w h hf hK)
  clear h hf
  go_enter Try.func39, Try.ntmps39
  go_wp2_with fail
  refine HL.out.mono ?_
  rintro e w1 ⟨⟨l, hl, v, zs, h1, h2, rfl⟩, h3⟩
  have H0 : Hid (Lists s K.data.toList l) := hl
  have H1 := Lib.hid h1
  have H2 := Lib.hid h2
  have H3 := Lib.hid h3
  clear hl h1 h2 h3
  try dsimp only
  go_wp2
  go_ret
  exact ⟨⟨l, H0.out, v, zs, H1.out, H2.out, rfl⟩, H3.out⟩
set_option maxHeartbeats 4000000 in
set_option maxRecDepth 1000000 in
theorem nokeys_c (p : Option Addr) (K : ByteArray) (w : World) : Calls Try.prog 41 #[.pointer p, .string K] w fun e w' => Row w w' [] e ∧ Below w.heap.size w w' := by
  go_enter Try.func41, Try.ntmps41
  go_wp2_with fail
  go_ret
  exact ⟨⟨_, [], rfl, World.ownsRow_nil _ _ _ _, rfl⟩, Below.refl _ _⟩
def wayV (kd : Int) : Value :=
  if kd = 115 then .agg #[.func (.func 38) #[] #[], .func (.func 39) #[] #[]]
  else if kd = 100 then .agg #[.func (.func 40) #[] #[], .func (.func 41) #[] #[]]
  else if kd = 120 then .agg #[.func (.func 42) #[] #[], .func (.func 39) #[] #[]]
  else if kd = 98 then .agg #[.func (.func 43) #[] #[], .func (.func 39) #[] #[]]
  else .agg #[.func (.func 44) #[] #[], .func (.func 39) #[] #[]]
set_option maxHeartbeats 4000000 in
set_option maxRecDepth 1000000 in
theorem wayof_c (kd : Int) (w : World) : Calls Try.prog 30 #[.int .u8 kd] w fun e w' => e = .returned (wayV kd) ∧ Below w.heap.size w w' := by
  have hmf : ∀ (fn : Fn) (first cap : Array Value) (w : World), (Instr.makeFunc fn first cap).run Try.prog w = .ok (.func fn first cap) w := fun _ _ _ _ => rfl
  unfold wayV
  by_cases h115 : kd = 115
  · subst h115
    go_enter Try.func30, Try.ntmps30
    go_wp2_with fail
    have hh := heap_alloc_new w (.cells #[.func (.func 38) #[] #[], .func (.func 39) #[] #[]] 60)
    have HB := Lib.hid ((Below.refl w.heap.size w).alloc (Nat.le_refl _) (.cells #[.func (.func 38) #[] #[], .func (.func 39) #[] #[]] 60))
    refine bodyPost_ret (results_cell_row (g := w.heap.size) rfl _ _ _ _ _ _ rfl hh Try.underlying60 rfl (by kernel_rfl)) rfl ?_
    exact ⟨rfl, HB.out⟩
  by_cases h100 : kd = 100
  · subst h100
    go_enter Try.func30, Try.ntmps30
    go_wp2_with fail
    have hh := heap_alloc_new w (.cells #[.func (.func 40) #[] #[], .func (.func 41) #[] #[]] 60)
    have HB := Lib.hid ((Below.refl w.heap.size w).alloc (Nat.le_refl _) (.cells #[.func (.func 40) #[] #[], .func (.func 41) #[] #[]] 60))
    refine bodyPost_ret (results_cell_row (g := w.heap.size) rfl _ _ _ _ _ _ rfl hh Try.underlying60 rfl (by kernel_rfl)) rfl ?_
    exact ⟨rfl, HB.out⟩
  by_cases h120 : kd = 120
  · subst h120
    go_enter Try.func30, Try.ntmps30
    go_wp2_with fail
    have hh := heap_alloc_new w (.cells #[.func (.func 42) #[] #[], .func (.func 39) #[] #[]] 60)
    have HB := Lib.hid ((Below.refl w.heap.size w).alloc (Nat.le_refl _) (.cells #[.func (.func 42) #[] #[], .func (.func 39) #[] #[]] 60))
    refine bodyPost_ret (results_cell_row (g := w.heap.size) rfl _ _ _ _ _ _ rfl hh Try.underlying60 rfl (by kernel_rfl)) rfl ?_
    exact ⟨rfl, HB.out⟩
  by_cases h98 : kd = 98
  · subst h98
    go_enter Try.func30, Try.ntmps30
    go_wp2_with fail
    have hh := heap_alloc_new w (.cells #[.func (.func 43) #[] #[], .func (.func 39) #[] #[]] 60)
    have HB := Lib.hid ((Below.refl w.heap.size w).alloc (Nat.le_refl _) (.cells #[.func (.func 43) #[] #[], .func (.func 39) #[] #[]] 60))
    refine bodyPost_ret (results_cell_row (g := w.heap.size) rfl _ _ _ _ _ _ rfl hh Try.underlying60 rfl (by kernel_rfl)) rfl ?_
    exact ⟨rfl, HB.out⟩
  go_enter Try.func30, Try.ntmps30
  go_wp2_with fail
  have hh := heap_alloc_new w (.cells #[.func (.func 44) #[] #[], .func (.func 39) #[] #[]] 60)
  have HB := Lib.hid ((Below.refl w.heap.size w).alloc (Nat.le_refl _) (.cells #[.func (.func 44) #[] #[], .func (.func 39) #[] #[]] 60))
  refine bodyPost_ret (results_cell_row (g := w.heap.size) rfl _ _ _ _ _ _ rfl hh Try.underlying60 rfl (by kernel_rfl)) rfl ?_
  exact ⟨rfl, HB.out⟩
set_option maxHeartbeats 4000000 in
set_option maxRecDepth 1000000 in
theorem orempty_c (a : Addr) (w : World) : Calls Try.prog 31 #[.pointer (some a)] w fun e w' => e = .returned (.pointer (some a)) ∧ w' = w := by
  go_enter Try.func31, Try.ntmps31
  go_wp2_with fail
  go_ret
  exact ⟨rfl, rfl⟩
set_option maxHeartbeats 4000000 in
set_option maxRecDepth 1000000 in
theorem orempty_n (d : StoreOK D) (w : World) : Calls Try.prog 31 #[.pointer none] w fun e w' => ∃ (a : Addr) (X : Nat → Prop), e = .returned (.pointer (some a)) ∧ D w' a X s0 ∧ (∀ b, X b → w.heap.size ≤ b) ∧ Below w.heap.size w w' := by
  have HN := Lib.hid (d.new w)
  go_enter Try.func31, Try.ntmps31
  go_wp2_with fail
  refine HN.out.mono ?_
  rintro e w1 ⟨a, X, rfl, h1, h2, h3⟩
  have H1 := Lib.hid h1
  have H2 := Lib.hid h2
  have H3 := Lib.hid h3
  clear h1 h2 h3
  try dsimp only
  go_wp2
  go_ret
  exact ⟨a, X, rfl, H1.out, H2.out, H3.out⟩
theorem field_way (F G : Value) (w : World) : (Instr.field 60 (.agg #[F, G]) 0).run Try.prog w = .ok F w ∧ (Instr.field 60 (.agg #[F, G]) 1).run Try.prog w = .ok G w := ⟨by kernel_rfl, by kernel_rfl⟩
theorem emp_c (a : Addr) (w : World) : Calls Try.prog 31 #[.pointer (some a)] w fun e w' => e = .returned (.pointer (some a)) ∧ Below w.heap.size w w' := (orempty_c a w).mono fun e w' h => ⟨h.1, by rw [h.2]; exact Below.refl _ _⟩
theorem emp_n {w0 : World} (d : StoreOK D) (hb : Below w0.heap.size w0 w) : Calls Try.prog 31 #[.pointer none] w fun e w' => ∃ (a : Addr) (X : Nat → Prop), e = .returned (.pointer (some a)) ∧ Sts D w0 w' a X s0 ∧ Below w.heap.size w w' := (orempty_n d w).mono fun e w' h => by
  obtain ⟨a, X, h1, h2, h3, h4⟩ := h
  exact ⟨a, X, h1, ⟨h2, fun b hx => Nat.le_trans hb.size (h3 b hx), fine0, bel_call hb h4⟩, h4⟩
theorem made_g (s : Stt) (k : Tm) (K : ByteArray) (kd bk : Int) (Y Z : ByteArray) (p : Option Addr) (w : World) : Calls Try.prog 43 #[.pointer p, .string K, .agg #[.int .u8 kd, .int .i64 bk, .string Y, .string Z]] w fun e w' => Sr (pickG s k ⟨98, bk, Y, Z⟩) e ∧ Below w.heap.size w w' := (made_c K kd bk Y Z p w).mono fun e w' h => ⟨by
  by_cases h4 : 40000 < Z.size
  · rw [pick_big h4]
    have := h.1
    rw [if_pos h4] at this
    exact this
  · rw [pick_made h4]
    have := h.1
    rw [if_neg h4] at this
    exact this, h.2⟩
set_option maxHeartbeats 4000000 in
set_option maxRecDepth 1000000 in
theorem pget_c (d : StoreOK D) (h : D w a X s) (hf : Fine s) (K : ByteArray) (kd bk : Int) (Y Z : ByteArray) (hKz : K.size ≤ 140737488351232) (hc : Ch.Ok ⟨kd, bk, Y, Z⟩) : Calls Try.prog 12 #[.pointer (some a), .string K, .agg #[.int .u8 kd, .int .i64 bk, .string Y, .string Z]] w fun e w' => Sr (pickG s K.data.toList ⟨kd, bk, Y, Z⟩) e ∧ Below w.heap.size w w' := by
  obtain ⟨w0, hst⟩ := sts_any h hf
  have HSA := Lib.hid hst
  clear h hf hst
  have HCH := Lib.hid hc
  obtain ⟨hkd, hbk, hy1, hy2⟩ := hc
  simp only at hkd hbk hy1 hy2
  have hfw := fun F G w => (field_way F G w).1
  by_cases h115 : kd = 115
  · subst h115
    have HW : Hid (∀ w, Calls Try.prog 30 #[.int .u8 115] w fun e w' => e = .returned (.agg #[.func (.func 38) #[] #[], .func (.func 39) #[] #[]]) ∧ Below w.heap.size w w') := Lib.hid fun w => by
      have h := wayof_c 115 w
      unfold wayV at h
      simp only [Int.reduceEq, if_true, if_false] at h
      exact h
    go_enter Try.func12, Try.ntmps12
    go_wp2_with fail
    have hbS : Below w.heap.size w (w.alloc (.cells #[.int .u8 115, .int .i64 bk, .string Y, .string Z] 24)) := (Below.refl w.heap.size w).alloc (Nat.le_refl _) _
    have hxS := b4_new w (.int .u8 115) (.int .i64 bk) (.string Y) (.string Z) 24
    generalize w.alloc (.cells #[.int .u8 115, .int .i64 bk, .string Y, .string Z] 24) = wSc at hbS hxS ⊢
    have HB1 := Lib.hid hbS
    replace HSA := Lib.hid (HSA.out.belowK d.ks hbS)
    have HXc := Lib.hid hxS
    clear hbS hxS
    obtain ⟨nc, dc0, dc1, dc2, dc3⟩ := HXc.out
    go_wp2_with fail
    clear nc dc0 dc1 dc2 dc3
    go_wp2_with fail
    have hdr : Below wSc.heap.size wSc wSc.drew := Below.drewN' (Below.refl wSc.heap.size wSc) 1
    refine wp_region_held_drew (S := fun w' => B4 w.heap.size w' (.int .u8 115) (.int .i64 bk) (.string Y) (.string Z)) (by kernel_rfl) (HXc.out.below hdr) (fun hHeld => ?_)
    clear hHeld
    generalize wSc.drew = wd1 at hdr ⊢
    have HB2 := Lib.hid (bel_call HB1.out hdr)
    replace HSA := Lib.hid (HSA.out.belowK d.ks hdr)
    replace HXc := Lib.hid (HXc.out.below hdr)
    clear hdr
    have hHeld : B4 w.heap.size wd1 (.int .u8 115) (.int .i64 bk) (.string Y) (.string Z) := HXc.out
    refine wpAnyH_take (i := 0) (v := ?_) (by rw [List.getElem?_toArray]; rfl) (by kernel_rfl) (by kernel_rfl) (by kernel_rfl) (by exact fun _ _ _ h => h) (Or.inl ⟨by rfl, ?_⟩) (by assumption) ?_
    rotate_left
    · intro w' hSw
      go_simp
      try with_reducible rfl
    try simp only [Act.put, List.setIfInBounds_toArray, List.set_cons_zero, List.set_cons_succ]
    refine wpAnyH_take (i := 1) (v := ?_) (by rw [List.getElem?_toArray]; rfl) (by kernel_rfl) (by kernel_rfl) (by kernel_rfl) (by exact fun _ _ _ h => h) (Or.inl ⟨by rfl, ?_⟩) (by assumption) ?_
    rotate_left
    · intro w' hSw
      obtain ⟨_, q00, q01, q02, q03⟩ := hSw
      go_simp
      try with_reducible rfl
    try simp only [Act.put, List.setIfInBounds_toArray, List.set_cons_zero, List.set_cons_succ]
    refine wpAnyH_take (i := 4) (v := ?_) (by rw [List.getElem?_toArray]; rfl) (by kernel_rfl) (by kernel_rfl) (by kernel_rfl) (by exact fun _ _ _ h => h) (Or.inl ⟨by rfl, ?_⟩) (by assumption) ?_
    rotate_left
    · intro w' hSw
      go_simp
      try with_reducible rfl
    try simp only [Act.put, List.setIfInBounds_toArray, List.set_cons_zero, List.set_cons_succ]
    refine wpAnyH_take (i := 6) (v := ?_) (by rw [List.getElem?_toArray]; rfl) (by kernel_rfl) (by kernel_rfl) (by kernel_rfl) (by exact fun _ _ _ h => h) (Or.inl ⟨by rfl, ?_⟩) (by assumption) ?_
    rotate_left
    · intro w' hSw
      go_simp
      try with_reducible rfl
    try simp only [Act.put, List.setIfInBounds_toArray, List.set_cons_zero, List.set_cons_succ]
    refine wpAnyH_take (i := 7) (v := ?_) (by rw [List.getElem?_toArray]; rfl) (by kernel_rfl) (by kernel_rfl) (by kernel_rfl) (by exact fun _ _ _ h => h) (Or.inl ⟨by rfl, ?_⟩) (by assumption) ?_
    rotate_left
    · intro w' hSw
      obtain ⟨_, q00, q01, q02, q03⟩ := hSw
      go_simp
      try with_reducible rfl
    try simp only [Act.put, List.setIfInBounds_toArray, List.set_cons_zero, List.set_cons_succ]
    clear hHeld
    refine wpAnyH_ready (rs := [2]) (by kernel_rfl) (by simp) ?_
    refine AllReadyH.cons (by rw [List.getElem?_toArray]; rfl) (fun Kn hK => ?_) AllReadyH.nil
    go_simp
    go_at_call 30
    with_reducible refine (HW.out _).mono ?_
    rintro e w3 ⟨rfl, hb3⟩
    have HB3 := Lib.hid (bel_call HB2.out hb3)
    replace HSA := Lib.hid (HSA.out.belowK d.ks hb3)
    replace HXc := Lib.hid (HXc.out.below hb3)
    clear hb3
    try dsimp only
    refine hK.out _ _ HXc.out (fun hHeld => ?_)
    try simp only [Act.put, List.setIfInBounds_toArray, List.set_cons_zero, List.set_cons_succ]
    refine wpAnyH_take (i := 3) (v := ?_) (by rw [List.getElem?_toArray]; rfl) (by kernel_rfl) (by kernel_rfl) (by kernel_rfl) (by exact fun _ _ _ h => h) (Or.inl ⟨by rfl, ?_⟩) (by assumption) ?_
    rotate_left
    · intro w' hSw
      go_simp
      try with_reducible rfl
    try simp only [Act.put, List.setIfInBounds_toArray, List.set_cons_zero, List.set_cons_succ]
    clear hHeld
    refine wpAnyH_ready (rs := [5]) (by kernel_rfl) (by simp) ?_
    refine AllReadyH.cons (by rw [List.getElem?_toArray]; rfl) (fun Kn hK => ?_) AllReadyH.nil
    go_simp
    go_at_call 31
    with_reducible refine (emp_c a _).mono ?_
    rintro e w4 ⟨rfl, hb4⟩
    have HB4 := Lib.hid (bel_call HB3.out hb4)
    replace HSA := Lib.hid (HSA.out.belowK d.ks hb4)
    replace HXc := Lib.hid (HXc.out.below hb4)
    clear hb4
    try dsimp only
    refine hK.out _ _ HXc.out (fun hHeld => ?_)
    try simp only [Act.put, List.setIfInBounds_toArray, List.set_cons_zero, List.set_cons_succ]
    clear hHeld
    refine wpAnyH_ready (rs := [8]) (by kernel_rfl) (by simp) ?_
    refine AllReadyH.cons (by rw [List.getElem?_toArray]; rfl) (fun Kn hK => ?_) AllReadyH.nil
    go_simp
    go_at_call 38
    with_reducible refine (stale_c d HSA.out.d HSA.out.f K 115 bk Y Z hKz HCH.out).mono ?_
    rintro e w5 ⟨⟨T, hT, rfl⟩, hb5⟩
    have HB5 := Lib.hid (bel_call HB4.out hb5)
    replace HSA := Lib.hid (HSA.out.belowK d.ks hb5)
    replace HXc := Lib.hid (HXc.out.below hb5)
    clear hb5
    have HT := Lib.hid hT
    clear hT
    try dsimp only
    refine hK.out _ _ HXc.out (fun hHeld => ?_)
    try simp only [Act.put, List.setIfInBounds_toArray, List.set_cons_zero, List.set_cons_succ]
    refine wpAnyH_take (i := 9) (v := ?_) (by rw [List.getElem?_toArray]; rfl) (by kernel_rfl) (by kernel_rfl) (by kernel_rfl) (by exact fun _ _ _ h => h) (Or.inl ⟨by rfl, ?_⟩) (by assumption) ?_
    rotate_left
    · intro w' hSw
      go_simp
      try with_reducible rfl
    try simp only [Act.put, List.setIfInBounds_toArray, List.set_cons_zero, List.set_cons_succ]
    refine wpAnyH_take (i := 10) (v := ?_) (by rw [List.getElem?_toArray]; rfl) (by kernel_rfl) (by kernel_rfl) (by kernel_rfl) (by exact fun _ _ _ h => h) (Or.inl ⟨by rfl, ?_⟩) (by assumption) ?_
    rotate_left
    · intro w' hSw
      go_simp
      try with_reducible rfl
    try simp only [Act.put, List.setIfInBounds_toArray, List.set_cons_zero, List.set_cons_succ]
    refine wpAnyH_take (i := 11) (v := ?_) (by rw [List.getElem?_toArray]; rfl) (by kernel_rfl) (by kernel_rfl) (by kernel_rfl) (by exact fun _ _ _ h => h) (Or.inl ⟨by rfl, ?_⟩) (by assumption) ?_
    rotate_left
    · intro w' hSw
      go_simp
      try with_reducible rfl
    try simp only [Act.put, List.setIfInBounds_toArray, List.set_cons_zero, List.set_cons_succ]
    refine wpAnyH_take (i := 12) (v := ?_) (by rw [List.getElem?_toArray]; rfl) (by kernel_rfl) (by kernel_rfl) (by kernel_rfl) (by exact fun _ _ _ h => h) (Or.inl ⟨by rfl, ?_⟩) (by assumption) ?_
    rotate_left
    · intro w' hSw
      go_simp
      try with_reducible rfl
    try simp only [Act.put, List.setIfInBounds_toArray, List.set_cons_zero, List.set_cons_succ]
    refine wpAnyH_done (by kernel_rfl) ?_ _
    clear hHeld
    go_wp2
    go_ret2
    exact ⟨⟨T, HT.out, rfl⟩, HB5.out⟩
  by_cases h100 : kd = 100
  · subst h100
    have HW : Hid (∀ w, Calls Try.prog 30 #[.int .u8 100] w fun e w' => e = .returned (.agg #[.func (.func 40) #[] #[], .func (.func 41) #[] #[]]) ∧ Below w.heap.size w w') := Lib.hid fun w => by
      have h := wayof_c 100 w
      unfold wayV at h
      simp only [Int.reduceEq, if_true, if_false] at h
      exact h
    rw [pick_gone]
    go_enter Try.func12, Try.ntmps12
    go_wp2_with fail
    have hbS : Below w.heap.size w (w.alloc (.cells #[.int .u8 100, .int .i64 bk, .string Y, .string Z] 24)) := (Below.refl w.heap.size w).alloc (Nat.le_refl _) _
    have hxS := b4_new w (.int .u8 100) (.int .i64 bk) (.string Y) (.string Z) 24
    generalize w.alloc (.cells #[.int .u8 100, .int .i64 bk, .string Y, .string Z] 24) = wSc at hbS hxS ⊢
    have HB1 := Lib.hid hbS
    replace HSA := Lib.hid (HSA.out.belowK d.ks hbS)
    have HXc := Lib.hid hxS
    clear hbS hxS
    obtain ⟨nc, dc0, dc1, dc2, dc3⟩ := HXc.out
    go_wp2_with fail
    clear nc dc0 dc1 dc2 dc3
    go_wp2_with fail
    have hdr : Below wSc.heap.size wSc wSc.drew := Below.drewN' (Below.refl wSc.heap.size wSc) 1
    refine wp_region_held_drew (S := fun w' => B4 w.heap.size w' (.int .u8 100) (.int .i64 bk) (.string Y) (.string Z)) (by kernel_rfl) (HXc.out.below hdr) (fun hHeld => ?_)
    clear hHeld
    generalize wSc.drew = wd1 at hdr ⊢
    have HB2 := Lib.hid (bel_call HB1.out hdr)
    replace HSA := Lib.hid (HSA.out.belowK d.ks hdr)
    replace HXc := Lib.hid (HXc.out.below hdr)
    clear hdr
    have hHeld : B4 w.heap.size wd1 (.int .u8 100) (.int .i64 bk) (.string Y) (.string Z) := HXc.out
    refine wpAnyH_take (i := 0) (v := ?_) (by rw [List.getElem?_toArray]; rfl) (by kernel_rfl) (by kernel_rfl) (by kernel_rfl) (by exact fun _ _ _ h => h) (Or.inl ⟨by rfl, ?_⟩) (by assumption) ?_
    rotate_left
    · intro w' hSw
      go_simp
      try with_reducible rfl
    try simp only [Act.put, List.setIfInBounds_toArray, List.set_cons_zero, List.set_cons_succ]
    refine wpAnyH_take (i := 1) (v := ?_) (by rw [List.getElem?_toArray]; rfl) (by kernel_rfl) (by kernel_rfl) (by kernel_rfl) (by exact fun _ _ _ h => h) (Or.inl ⟨by rfl, ?_⟩) (by assumption) ?_
    rotate_left
    · intro w' hSw
      obtain ⟨_, q00, q01, q02, q03⟩ := hSw
      go_simp
      try with_reducible rfl
    try simp only [Act.put, List.setIfInBounds_toArray, List.set_cons_zero, List.set_cons_succ]
    refine wpAnyH_take (i := 4) (v := ?_) (by rw [List.getElem?_toArray]; rfl) (by kernel_rfl) (by kernel_rfl) (by kernel_rfl) (by exact fun _ _ _ h => h) (Or.inl ⟨by rfl, ?_⟩) (by assumption) ?_
    rotate_left
    · intro w' hSw
      go_simp
      try with_reducible rfl
    try simp only [Act.put, List.setIfInBounds_toArray, List.set_cons_zero, List.set_cons_succ]
    refine wpAnyH_take (i := 6) (v := ?_) (by rw [List.getElem?_toArray]; rfl) (by kernel_rfl) (by kernel_rfl) (by kernel_rfl) (by exact fun _ _ _ h => h) (Or.inl ⟨by rfl, ?_⟩) (by assumption) ?_
    rotate_left
    · intro w' hSw
      go_simp
      try with_reducible rfl
    try simp only [Act.put, List.setIfInBounds_toArray, List.set_cons_zero, List.set_cons_succ]
    refine wpAnyH_take (i := 7) (v := ?_) (by rw [List.getElem?_toArray]; rfl) (by kernel_rfl) (by kernel_rfl) (by kernel_rfl) (by exact fun _ _ _ h => h) (Or.inl ⟨by rfl, ?_⟩) (by assumption) ?_
    rotate_left
    · intro w' hSw
      obtain ⟨_, q00, q01, q02, q03⟩ := hSw
      go_simp
      try with_reducible rfl
    try simp only [Act.put, List.setIfInBounds_toArray, List.set_cons_zero, List.set_cons_succ]
    clear hHeld
    refine wpAnyH_ready (rs := [2]) (by kernel_rfl) (by simp) ?_
    refine AllReadyH.cons (by rw [List.getElem?_toArray]; rfl) (fun Kn hK => ?_) AllReadyH.nil
    go_simp
    go_at_call 30
    with_reducible refine (HW.out _).mono ?_
    rintro e w3 ⟨rfl, hb3⟩
    have HB3 := Lib.hid (bel_call HB2.out hb3)
    replace HSA := Lib.hid (HSA.out.belowK d.ks hb3)
    replace HXc := Lib.hid (HXc.out.below hb3)
    clear hb3
    try dsimp only
    refine hK.out _ _ HXc.out (fun hHeld => ?_)
    try simp only [Act.put, List.setIfInBounds_toArray, List.set_cons_zero, List.set_cons_succ]
    refine wpAnyH_take (i := 3) (v := ?_) (by rw [List.getElem?_toArray]; rfl) (by kernel_rfl) (by kernel_rfl) (by kernel_rfl) (by exact fun _ _ _ h => h) (Or.inl ⟨by rfl, ?_⟩) (by assumption) ?_
    rotate_left
    · intro w' hSw
      go_simp
      try with_reducible rfl
    try simp only [Act.put, List.setIfInBounds_toArray, List.set_cons_zero, List.set_cons_succ]
    clear hHeld
    refine wpAnyH_ready (rs := [5]) (by kernel_rfl) (by simp) ?_
    refine AllReadyH.cons (by rw [List.getElem?_toArray]; rfl) (fun Kn hK => ?_) AllReadyH.nil
    go_simp
    go_at_call 31
    with_reducible refine (emp_c a _).mono ?_
    rintro e w4 ⟨rfl, hb4⟩
    have HB4 := Lib.hid (bel_call HB3.out hb4)
    replace HSA := Lib.hid (HSA.out.belowK d.ks hb4)
    replace HXc := Lib.hid (HXc.out.below hb4)
    clear hb4
    try dsimp only
    refine hK.out _ _ HXc.out (fun hHeld => ?_)
    try simp only [Act.put, List.setIfInBounds_toArray, List.set_cons_zero, List.set_cons_succ]
    clear hHeld
    refine wpAnyH_ready (rs := [8]) (by kernel_rfl) (by simp) ?_
    refine AllReadyH.cons (by rw [List.getElem?_toArray]; rfl) (fun Kn hK => ?_) AllReadyH.nil
    go_simp
    go_at_call 40
    with_reducible refine (gone_c K 100 bk Y Z (some a) _).mono ?_
    rintro e w5 ⟨⟨T, hT, rfl⟩, hb5⟩
    have HB5 := Lib.hid (bel_call HB4.out hb5)
    replace HSA := Lib.hid (HSA.out.belowK d.ks hb5)
    replace HXc := Lib.hid (HXc.out.below hb5)
    clear hb5
    have HT := Lib.hid hT
    clear hT
    try dsimp only
    refine hK.out _ _ HXc.out (fun hHeld => ?_)
    try simp only [Act.put, List.setIfInBounds_toArray, List.set_cons_zero, List.set_cons_succ]
    refine wpAnyH_take (i := 9) (v := ?_) (by rw [List.getElem?_toArray]; rfl) (by kernel_rfl) (by kernel_rfl) (by kernel_rfl) (by exact fun _ _ _ h => h) (Or.inl ⟨by rfl, ?_⟩) (by assumption) ?_
    rotate_left
    · intro w' hSw
      go_simp
      try with_reducible rfl
    try simp only [Act.put, List.setIfInBounds_toArray, List.set_cons_zero, List.set_cons_succ]
    refine wpAnyH_take (i := 10) (v := ?_) (by rw [List.getElem?_toArray]; rfl) (by kernel_rfl) (by kernel_rfl) (by kernel_rfl) (by exact fun _ _ _ h => h) (Or.inl ⟨by rfl, ?_⟩) (by assumption) ?_
    rotate_left
    · intro w' hSw
      go_simp
      try with_reducible rfl
    try simp only [Act.put, List.setIfInBounds_toArray, List.set_cons_zero, List.set_cons_succ]
    refine wpAnyH_take (i := 11) (v := ?_) (by rw [List.getElem?_toArray]; rfl) (by kernel_rfl) (by kernel_rfl) (by kernel_rfl) (by exact fun _ _ _ h => h) (Or.inl ⟨by rfl, ?_⟩) (by assumption) ?_
    rotate_left
    · intro w' hSw
      go_simp
      try with_reducible rfl
    try simp only [Act.put, List.setIfInBounds_toArray, List.set_cons_zero, List.set_cons_succ]
    refine wpAnyH_take (i := 12) (v := ?_) (by rw [List.getElem?_toArray]; rfl) (by kernel_rfl) (by kernel_rfl) (by kernel_rfl) (by exact fun _ _ _ h => h) (Or.inl ⟨by rfl, ?_⟩) (by assumption) ?_
    rotate_left
    · intro w' hSw
      go_simp
      try with_reducible rfl
    try simp only [Act.put, List.setIfInBounds_toArray, List.set_cons_zero, List.set_cons_succ]
    refine wpAnyH_done (by kernel_rfl) ?_ _
    clear hHeld
    go_wp2
    go_ret2
    exact ⟨⟨T, HT.out, rfl⟩, HB5.out⟩
  by_cases h120 : kd = 120
  · subst h120
    have HW : Hid (∀ w, Calls Try.prog 30 #[.int .u8 120] w fun e w' => e = .returned (.agg #[.func (.func 42) #[] #[], .func (.func 39) #[] #[]]) ∧ Below w.heap.size w w') := Lib.hid fun w => by
      have h := wayof_c 120 w
      unfold wayV at h
      simp only [Int.reduceEq, if_true, if_false] at h
      exact h
    rw [pick_other]
    go_enter Try.func12, Try.ntmps12
    go_wp2_with fail
    have hbS : Below w.heap.size w (w.alloc (.cells #[.int .u8 120, .int .i64 bk, .string Y, .string Z] 24)) := (Below.refl w.heap.size w).alloc (Nat.le_refl _) _
    have hxS := b4_new w (.int .u8 120) (.int .i64 bk) (.string Y) (.string Z) 24
    generalize w.alloc (.cells #[.int .u8 120, .int .i64 bk, .string Y, .string Z] 24) = wSc at hbS hxS ⊢
    have HB1 := Lib.hid hbS
    replace HSA := Lib.hid (HSA.out.belowK d.ks hbS)
    have HXc := Lib.hid hxS
    clear hbS hxS
    obtain ⟨nc, dc0, dc1, dc2, dc3⟩ := HXc.out
    go_wp2_with fail
    clear nc dc0 dc1 dc2 dc3
    go_wp2_with fail
    have hdr : Below wSc.heap.size wSc wSc.drew := Below.drewN' (Below.refl wSc.heap.size wSc) 1
    refine wp_region_held_drew (S := fun w' => B4 w.heap.size w' (.int .u8 120) (.int .i64 bk) (.string Y) (.string Z)) (by kernel_rfl) (HXc.out.below hdr) (fun hHeld => ?_)
    clear hHeld
    generalize wSc.drew = wd1 at hdr ⊢
    have HB2 := Lib.hid (bel_call HB1.out hdr)
    replace HSA := Lib.hid (HSA.out.belowK d.ks hdr)
    replace HXc := Lib.hid (HXc.out.below hdr)
    clear hdr
    have hHeld : B4 w.heap.size wd1 (.int .u8 120) (.int .i64 bk) (.string Y) (.string Z) := HXc.out
    refine wpAnyH_take (i := 0) (v := ?_) (by rw [List.getElem?_toArray]; rfl) (by kernel_rfl) (by kernel_rfl) (by kernel_rfl) (by exact fun _ _ _ h => h) (Or.inl ⟨by rfl, ?_⟩) (by assumption) ?_
    rotate_left
    · intro w' hSw
      go_simp
      try with_reducible rfl
    try simp only [Act.put, List.setIfInBounds_toArray, List.set_cons_zero, List.set_cons_succ]
    refine wpAnyH_take (i := 1) (v := ?_) (by rw [List.getElem?_toArray]; rfl) (by kernel_rfl) (by kernel_rfl) (by kernel_rfl) (by exact fun _ _ _ h => h) (Or.inl ⟨by rfl, ?_⟩) (by assumption) ?_
    rotate_left
    · intro w' hSw
      obtain ⟨_, q00, q01, q02, q03⟩ := hSw
      go_simp
      try with_reducible rfl
    try simp only [Act.put, List.setIfInBounds_toArray, List.set_cons_zero, List.set_cons_succ]
    refine wpAnyH_take (i := 4) (v := ?_) (by rw [List.getElem?_toArray]; rfl) (by kernel_rfl) (by kernel_rfl) (by kernel_rfl) (by exact fun _ _ _ h => h) (Or.inl ⟨by rfl, ?_⟩) (by assumption) ?_
    rotate_left
    · intro w' hSw
      go_simp
      try with_reducible rfl
    try simp only [Act.put, List.setIfInBounds_toArray, List.set_cons_zero, List.set_cons_succ]
    refine wpAnyH_take (i := 6) (v := ?_) (by rw [List.getElem?_toArray]; rfl) (by kernel_rfl) (by kernel_rfl) (by kernel_rfl) (by exact fun _ _ _ h => h) (Or.inl ⟨by rfl, ?_⟩) (by assumption) ?_
    rotate_left
    · intro w' hSw
      go_simp
      try with_reducible rfl
    try simp only [Act.put, List.setIfInBounds_toArray, List.set_cons_zero, List.set_cons_succ]
    refine wpAnyH_take (i := 7) (v := ?_) (by rw [List.getElem?_toArray]; rfl) (by kernel_rfl) (by kernel_rfl) (by kernel_rfl) (by exact fun _ _ _ h => h) (Or.inl ⟨by rfl, ?_⟩) (by assumption) ?_
    rotate_left
    · intro w' hSw
      obtain ⟨_, q00, q01, q02, q03⟩ := hSw
      go_simp
      try with_reducible rfl
    try simp only [Act.put, List.setIfInBounds_toArray, List.set_cons_zero, List.set_cons_succ]
    clear hHeld
    refine wpAnyH_ready (rs := [2]) (by kernel_rfl) (by simp) ?_
    refine AllReadyH.cons (by rw [List.getElem?_toArray]; rfl) (fun Kn hK => ?_) AllReadyH.nil
    go_simp
    go_at_call 30
    with_reducible refine (HW.out _).mono ?_
    rintro e w3 ⟨rfl, hb3⟩
    have HB3 := Lib.hid (bel_call HB2.out hb3)
    replace HSA := Lib.hid (HSA.out.belowK d.ks hb3)
    replace HXc := Lib.hid (HXc.out.below hb3)
    clear hb3
    try dsimp only
    refine hK.out _ _ HXc.out (fun hHeld => ?_)
    try simp only [Act.put, List.setIfInBounds_toArray, List.set_cons_zero, List.set_cons_succ]
    refine wpAnyH_take (i := 3) (v := ?_) (by rw [List.getElem?_toArray]; rfl) (by kernel_rfl) (by kernel_rfl) (by kernel_rfl) (by exact fun _ _ _ h => h) (Or.inl ⟨by rfl, ?_⟩) (by assumption) ?_
    rotate_left
    · intro w' hSw
      go_simp
      try with_reducible rfl
    try simp only [Act.put, List.setIfInBounds_toArray, List.set_cons_zero, List.set_cons_succ]
    clear hHeld
    refine wpAnyH_ready (rs := [5]) (by kernel_rfl) (by simp) ?_
    refine AllReadyH.cons (by rw [List.getElem?_toArray]; rfl) (fun Kn hK => ?_) AllReadyH.nil
    go_simp
    go_at_call 31
    with_reducible refine (emp_c a _).mono ?_
    rintro e w4 ⟨rfl, hb4⟩
    have HB4 := Lib.hid (bel_call HB3.out hb4)
    replace HSA := Lib.hid (HSA.out.belowK d.ks hb4)
    replace HXc := Lib.hid (HXc.out.below hb4)
    clear hb4
    try dsimp only
    refine hK.out _ _ HXc.out (fun hHeld => ?_)
    try simp only [Act.put, List.setIfInBounds_toArray, List.set_cons_zero, List.set_cons_succ]
    clear hHeld
    refine wpAnyH_ready (rs := [8]) (by kernel_rfl) (by simp) ?_
    refine AllReadyH.cons (by rw [List.getElem?_toArray]; rfl) (fun Kn hK => ?_) AllReadyH.nil
    go_simp
    go_at_call 42
    with_reducible refine (other_c d HSA.out.d HSA.out.f K 120 bk Y Z hKz HCH.out).mono ?_
    rintro e w5 ⟨⟨T, hT, rfl⟩, hb5⟩
    have HB5 := Lib.hid (bel_call HB4.out hb5)
    replace HSA := Lib.hid (HSA.out.belowK d.ks hb5)
    replace HXc := Lib.hid (HXc.out.below hb5)
    clear hb5
    have HT := Lib.hid hT
    clear hT
    try dsimp only
    refine hK.out _ _ HXc.out (fun hHeld => ?_)
    try simp only [Act.put, List.setIfInBounds_toArray, List.set_cons_zero, List.set_cons_succ]
    refine wpAnyH_take (i := 9) (v := ?_) (by rw [List.getElem?_toArray]; rfl) (by kernel_rfl) (by kernel_rfl) (by kernel_rfl) (by exact fun _ _ _ h => h) (Or.inl ⟨by rfl, ?_⟩) (by assumption) ?_
    rotate_left
    · intro w' hSw
      go_simp
      try with_reducible rfl
    try simp only [Act.put, List.setIfInBounds_toArray, List.set_cons_zero, List.set_cons_succ]
    refine wpAnyH_take (i := 10) (v := ?_) (by rw [List.getElem?_toArray]; rfl) (by kernel_rfl) (by kernel_rfl) (by kernel_rfl) (by exact fun _ _ _ h => h) (Or.inl ⟨by rfl, ?_⟩) (by assumption) ?_
    rotate_left
    · intro w' hSw
      go_simp
      try with_reducible rfl
    try simp only [Act.put, List.setIfInBounds_toArray, List.set_cons_zero, List.set_cons_succ]
    refine wpAnyH_take (i := 11) (v := ?_) (by rw [List.getElem?_toArray]; rfl) (by kernel_rfl) (by kernel_rfl) (by kernel_rfl) (by exact fun _ _ _ h => h) (Or.inl ⟨by rfl, ?_⟩) (by assumption) ?_
    rotate_left
    · intro w' hSw
      go_simp
      try with_reducible rfl
    try simp only [Act.put, List.setIfInBounds_toArray, List.set_cons_zero, List.set_cons_succ]
    refine wpAnyH_take (i := 12) (v := ?_) (by rw [List.getElem?_toArray]; rfl) (by kernel_rfl) (by kernel_rfl) (by kernel_rfl) (by exact fun _ _ _ h => h) (Or.inl ⟨by rfl, ?_⟩) (by assumption) ?_
    rotate_left
    · intro w' hSw
      go_simp
      try with_reducible rfl
    try simp only [Act.put, List.setIfInBounds_toArray, List.set_cons_zero, List.set_cons_succ]
    refine wpAnyH_done (by kernel_rfl) ?_ _
    clear hHeld
    go_wp2
    go_ret2
    exact ⟨⟨T, HT.out, rfl⟩, HB5.out⟩
  by_cases h98 : kd = 98
  · subst h98
    have HW : Hid (∀ w, Calls Try.prog 30 #[.int .u8 98] w fun e w' => e = .returned (.agg #[.func (.func 43) #[] #[], .func (.func 39) #[] #[]]) ∧ Below w.heap.size w w') := Lib.hid fun w => by
      have h := wayof_c 98 w
      unfold wayV at h
      simp only [Int.reduceEq, if_true, if_false] at h
      exact h
    go_enter Try.func12, Try.ntmps12
    go_wp2_with fail
    have hbS : Below w.heap.size w (w.alloc (.cells #[.int .u8 98, .int .i64 bk, .string Y, .string Z] 24)) := (Below.refl w.heap.size w).alloc (Nat.le_refl _) _
    have hxS := b4_new w (.int .u8 98) (.int .i64 bk) (.string Y) (.string Z) 24
    generalize w.alloc (.cells #[.int .u8 98, .int .i64 bk, .string Y, .string Z] 24) = wSc at hbS hxS ⊢
    have HB1 := Lib.hid hbS
    replace HSA := Lib.hid (HSA.out.belowK d.ks hbS)
    have HXc := Lib.hid hxS
    clear hbS hxS
    obtain ⟨nc, dc0, dc1, dc2, dc3⟩ := HXc.out
    go_wp2_with fail
    clear nc dc0 dc1 dc2 dc3
    go_wp2_with fail
    have hdr : Below wSc.heap.size wSc wSc.drew := Below.drewN' (Below.refl wSc.heap.size wSc) 1
    refine wp_region_held_drew (S := fun w' => B4 w.heap.size w' (.int .u8 98) (.int .i64 bk) (.string Y) (.string Z)) (by kernel_rfl) (HXc.out.below hdr) (fun hHeld => ?_)
    clear hHeld
    generalize wSc.drew = wd1 at hdr ⊢
    have HB2 := Lib.hid (bel_call HB1.out hdr)
    replace HSA := Lib.hid (HSA.out.belowK d.ks hdr)
    replace HXc := Lib.hid (HXc.out.below hdr)
    clear hdr
    have hHeld : B4 w.heap.size wd1 (.int .u8 98) (.int .i64 bk) (.string Y) (.string Z) := HXc.out
    refine wpAnyH_take (i := 0) (v := ?_) (by rw [List.getElem?_toArray]; rfl) (by kernel_rfl) (by kernel_rfl) (by kernel_rfl) (by exact fun _ _ _ h => h) (Or.inl ⟨by rfl, ?_⟩) (by assumption) ?_
    rotate_left
    · intro w' hSw
      go_simp
      try with_reducible rfl
    try simp only [Act.put, List.setIfInBounds_toArray, List.set_cons_zero, List.set_cons_succ]
    refine wpAnyH_take (i := 1) (v := ?_) (by rw [List.getElem?_toArray]; rfl) (by kernel_rfl) (by kernel_rfl) (by kernel_rfl) (by exact fun _ _ _ h => h) (Or.inl ⟨by rfl, ?_⟩) (by assumption) ?_
    rotate_left
    · intro w' hSw
      obtain ⟨_, q00, q01, q02, q03⟩ := hSw
      go_simp
      try with_reducible rfl
    try simp only [Act.put, List.setIfInBounds_toArray, List.set_cons_zero, List.set_cons_succ]
    refine wpAnyH_take (i := 4) (v := ?_) (by rw [List.getElem?_toArray]; rfl) (by kernel_rfl) (by kernel_rfl) (by kernel_rfl) (by exact fun _ _ _ h => h) (Or.inl ⟨by rfl, ?_⟩) (by assumption) ?_
    rotate_left
    · intro w' hSw
      go_simp
      try with_reducible rfl
    try simp only [Act.put, List.setIfInBounds_toArray, List.set_cons_zero, List.set_cons_succ]
    refine wpAnyH_take (i := 6) (v := ?_) (by rw [List.getElem?_toArray]; rfl) (by kernel_rfl) (by kernel_rfl) (by kernel_rfl) (by exact fun _ _ _ h => h) (Or.inl ⟨by rfl, ?_⟩) (by assumption) ?_
    rotate_left
    · intro w' hSw
      go_simp
      try with_reducible rfl
    try simp only [Act.put, List.setIfInBounds_toArray, List.set_cons_zero, List.set_cons_succ]
    refine wpAnyH_take (i := 7) (v := ?_) (by rw [List.getElem?_toArray]; rfl) (by kernel_rfl) (by kernel_rfl) (by kernel_rfl) (by exact fun _ _ _ h => h) (Or.inl ⟨by rfl, ?_⟩) (by assumption) ?_
    rotate_left
    · intro w' hSw
      obtain ⟨_, q00, q01, q02, q03⟩ := hSw
      go_simp
      try with_reducible rfl
    try simp only [Act.put, List.setIfInBounds_toArray, List.set_cons_zero, List.set_cons_succ]
    clear hHeld
    refine wpAnyH_ready (rs := [2]) (by kernel_rfl) (by simp) ?_
    refine AllReadyH.cons (by rw [List.getElem?_toArray]; rfl) (fun Kn hK => ?_) AllReadyH.nil
    go_simp
    go_at_call 30
    with_reducible refine (HW.out _).mono ?_
    rintro e w3 ⟨rfl, hb3⟩
    have HB3 := Lib.hid (bel_call HB2.out hb3)
    replace HSA := Lib.hid (HSA.out.belowK d.ks hb3)
    replace HXc := Lib.hid (HXc.out.below hb3)
    clear hb3
    try dsimp only
    refine hK.out _ _ HXc.out (fun hHeld => ?_)
    try simp only [Act.put, List.setIfInBounds_toArray, List.set_cons_zero, List.set_cons_succ]
    refine wpAnyH_take (i := 3) (v := ?_) (by rw [List.getElem?_toArray]; rfl) (by kernel_rfl) (by kernel_rfl) (by kernel_rfl) (by exact fun _ _ _ h => h) (Or.inl ⟨by rfl, ?_⟩) (by assumption) ?_
    rotate_left
    · intro w' hSw
      go_simp
      try with_reducible rfl
    try simp only [Act.put, List.setIfInBounds_toArray, List.set_cons_zero, List.set_cons_succ]
    clear hHeld
    refine wpAnyH_ready (rs := [5]) (by kernel_rfl) (by simp) ?_
    refine AllReadyH.cons (by rw [List.getElem?_toArray]; rfl) (fun Kn hK => ?_) AllReadyH.nil
    go_simp
    go_at_call 31
    with_reducible refine (emp_c a _).mono ?_
    rintro e w4 ⟨rfl, hb4⟩
    have HB4 := Lib.hid (bel_call HB3.out hb4)
    replace HSA := Lib.hid (HSA.out.belowK d.ks hb4)
    replace HXc := Lib.hid (HXc.out.below hb4)
    clear hb4
    try dsimp only
    refine hK.out _ _ HXc.out (fun hHeld => ?_)
    try simp only [Act.put, List.setIfInBounds_toArray, List.set_cons_zero, List.set_cons_succ]
    clear hHeld
    refine wpAnyH_ready (rs := [8]) (by kernel_rfl) (by simp) ?_
    refine AllReadyH.cons (by rw [List.getElem?_toArray]; rfl) (fun Kn hK => ?_) AllReadyH.nil
    go_simp
    go_at_call 43
    with_reducible refine (made_g s K.data.toList K 98 bk Y Z (some a) _).mono ?_
    rintro e w5 ⟨⟨T, hT, rfl⟩, hb5⟩
    have HB5 := Lib.hid (bel_call HB4.out hb5)
    replace HSA := Lib.hid (HSA.out.belowK d.ks hb5)
    replace HXc := Lib.hid (HXc.out.below hb5)
    clear hb5
    have HT := Lib.hid hT
    clear hT
    try dsimp only
    refine hK.out _ _ HXc.out (fun hHeld => ?_)
    try simp only [Act.put, List.setIfInBounds_toArray, List.set_cons_zero, List.set_cons_succ]
    refine wpAnyH_take (i := 9) (v := ?_) (by rw [List.getElem?_toArray]; rfl) (by kernel_rfl) (by kernel_rfl) (by kernel_rfl) (by exact fun _ _ _ h => h) (Or.inl ⟨by rfl, ?_⟩) (by assumption) ?_
    rotate_left
    · intro w' hSw
      go_simp
      try with_reducible rfl
    try simp only [Act.put, List.setIfInBounds_toArray, List.set_cons_zero, List.set_cons_succ]
    refine wpAnyH_take (i := 10) (v := ?_) (by rw [List.getElem?_toArray]; rfl) (by kernel_rfl) (by kernel_rfl) (by kernel_rfl) (by exact fun _ _ _ h => h) (Or.inl ⟨by rfl, ?_⟩) (by assumption) ?_
    rotate_left
    · intro w' hSw
      go_simp
      try with_reducible rfl
    try simp only [Act.put, List.setIfInBounds_toArray, List.set_cons_zero, List.set_cons_succ]
    refine wpAnyH_take (i := 11) (v := ?_) (by rw [List.getElem?_toArray]; rfl) (by kernel_rfl) (by kernel_rfl) (by kernel_rfl) (by exact fun _ _ _ h => h) (Or.inl ⟨by rfl, ?_⟩) (by assumption) ?_
    rotate_left
    · intro w' hSw
      go_simp
      try with_reducible rfl
    try simp only [Act.put, List.setIfInBounds_toArray, List.set_cons_zero, List.set_cons_succ]
    refine wpAnyH_take (i := 12) (v := ?_) (by rw [List.getElem?_toArray]; rfl) (by kernel_rfl) (by kernel_rfl) (by kernel_rfl) (by exact fun _ _ _ h => h) (Or.inl ⟨by rfl, ?_⟩) (by assumption) ?_
    rotate_left
    · intro w' hSw
      go_simp
      try with_reducible rfl
    try simp only [Act.put, List.setIfInBounds_toArray, List.set_cons_zero, List.set_cons_succ]
    refine wpAnyH_done (by kernel_rfl) ?_ _
    clear hHeld
    go_wp2
    go_ret2
    exact ⟨⟨T, HT.out, rfl⟩, HB5.out⟩
  have HW : Hid (∀ w, Calls Try.prog 30 #[.int .u8 kd] w fun e w' => e = .returned (.agg #[.func (.func 44) #[] #[], .func (.func 39) #[] #[]]) ∧ Below w.heap.size w w') := Lib.hid fun w => by
    have h := wayof_c kd w
    unfold wayV at h
    rw [if_neg h115, if_neg h100, if_neg h120, if_neg h98] at h
    exact h
  rw [pick_else h115 h100 h120 h98]
  go_enter Try.func12, Try.ntmps12
  go_wp2_with fail
  have hbS : Below w.heap.size w (w.alloc (.cells #[.int .u8 kd, .int .i64 bk, .string Y, .string Z] 24)) := (Below.refl w.heap.size w).alloc (Nat.le_refl _) _
  have hxS := b4_new w (.int .u8 kd) (.int .i64 bk) (.string Y) (.string Z) 24
  generalize w.alloc (.cells #[.int .u8 kd, .int .i64 bk, .string Y, .string Z] 24) = wSc at hbS hxS ⊢
  have HB1 := Lib.hid hbS
  replace HSA := Lib.hid (HSA.out.belowK d.ks hbS)
  have HXc := Lib.hid hxS
  clear hbS hxS
  obtain ⟨nc, dc0, dc1, dc2, dc3⟩ := HXc.out
  go_wp2_with fail
  clear nc dc0 dc1 dc2 dc3
  go_wp2_with fail
  have hdr : Below wSc.heap.size wSc wSc.drew := Below.drewN' (Below.refl wSc.heap.size wSc) 1
  refine wp_region_held_drew (S := fun w' => B4 w.heap.size w' (.int .u8 kd) (.int .i64 bk) (.string Y) (.string Z)) (by kernel_rfl) (HXc.out.below hdr) (fun hHeld => ?_)
  clear hHeld
  generalize wSc.drew = wd1 at hdr ⊢
  have HB2 := Lib.hid (bel_call HB1.out hdr)
  replace HSA := Lib.hid (HSA.out.belowK d.ks hdr)
  replace HXc := Lib.hid (HXc.out.below hdr)
  clear hdr
  have hHeld : B4 w.heap.size wd1 (.int .u8 kd) (.int .i64 bk) (.string Y) (.string Z) := HXc.out
  refine wpAnyH_take (i := 0) (v := ?_) (by rw [List.getElem?_toArray]; rfl) (by kernel_rfl) (by kernel_rfl) (by kernel_rfl) (by exact fun _ _ _ h => h) (Or.inl ⟨by rfl, ?_⟩) (by assumption) ?_
  rotate_left
  · intro w' hSw
    go_simp
    try with_reducible rfl
  try simp only [Act.put, List.setIfInBounds_toArray, List.set_cons_zero, List.set_cons_succ]
  refine wpAnyH_take (i := 1) (v := ?_) (by rw [List.getElem?_toArray]; rfl) (by kernel_rfl) (by kernel_rfl) (by kernel_rfl) (by exact fun _ _ _ h => h) (Or.inl ⟨by rfl, ?_⟩) (by assumption) ?_
  rotate_left
  · intro w' hSw
    obtain ⟨_, q00, q01, q02, q03⟩ := hSw
    go_simp
    try with_reducible rfl
  try simp only [Act.put, List.setIfInBounds_toArray, List.set_cons_zero, List.set_cons_succ]
  refine wpAnyH_take (i := 4) (v := ?_) (by rw [List.getElem?_toArray]; rfl) (by kernel_rfl) (by kernel_rfl) (by kernel_rfl) (by exact fun _ _ _ h => h) (Or.inl ⟨by rfl, ?_⟩) (by assumption) ?_
  rotate_left
  · intro w' hSw
    go_simp
    try with_reducible rfl
  try simp only [Act.put, List.setIfInBounds_toArray, List.set_cons_zero, List.set_cons_succ]
  refine wpAnyH_take (i := 6) (v := ?_) (by rw [List.getElem?_toArray]; rfl) (by kernel_rfl) (by kernel_rfl) (by kernel_rfl) (by exact fun _ _ _ h => h) (Or.inl ⟨by rfl, ?_⟩) (by assumption) ?_
  rotate_left
  · intro w' hSw
    go_simp
    try with_reducible rfl
  try simp only [Act.put, List.setIfInBounds_toArray, List.set_cons_zero, List.set_cons_succ]
  refine wpAnyH_take (i := 7) (v := ?_) (by rw [List.getElem?_toArray]; rfl) (by kernel_rfl) (by kernel_rfl) (by kernel_rfl) (by exact fun _ _ _ h => h) (Or.inl ⟨by rfl, ?_⟩) (by assumption) ?_
  rotate_left
  · intro w' hSw
    obtain ⟨_, q00, q01, q02, q03⟩ := hSw
    go_simp
    try with_reducible rfl
  try simp only [Act.put, List.setIfInBounds_toArray, List.set_cons_zero, List.set_cons_succ]
  clear hHeld
  refine wpAnyH_ready (rs := [2]) (by kernel_rfl) (by simp) ?_
  refine AllReadyH.cons (by rw [List.getElem?_toArray]; rfl) (fun Kn hK => ?_) AllReadyH.nil
  go_simp
  go_at_call 30
  with_reducible refine (HW.out _).mono ?_
  rintro e w3 ⟨rfl, hb3⟩
  have HB3 := Lib.hid (bel_call HB2.out hb3)
  replace HSA := Lib.hid (HSA.out.belowK d.ks hb3)
  replace HXc := Lib.hid (HXc.out.below hb3)
  clear hb3
  try dsimp only
  refine hK.out _ _ HXc.out (fun hHeld => ?_)
  try simp only [Act.put, List.setIfInBounds_toArray, List.set_cons_zero, List.set_cons_succ]
  refine wpAnyH_take (i := 3) (v := ?_) (by rw [List.getElem?_toArray]; rfl) (by kernel_rfl) (by kernel_rfl) (by kernel_rfl) (by exact fun _ _ _ h => h) (Or.inl ⟨by rfl, ?_⟩) (by assumption) ?_
  rotate_left
  · intro w' hSw
    go_simp
    try with_reducible rfl
  try simp only [Act.put, List.setIfInBounds_toArray, List.set_cons_zero, List.set_cons_succ]
  clear hHeld
  refine wpAnyH_ready (rs := [5]) (by kernel_rfl) (by simp) ?_
  refine AllReadyH.cons (by rw [List.getElem?_toArray]; rfl) (fun Kn hK => ?_) AllReadyH.nil
  go_simp
  go_at_call 31
  with_reducible refine (emp_c a _).mono ?_
  rintro e w4 ⟨rfl, hb4⟩
  have HB4 := Lib.hid (bel_call HB3.out hb4)
  replace HSA := Lib.hid (HSA.out.belowK d.ks hb4)
  replace HXc := Lib.hid (HXc.out.below hb4)
  clear hb4
  try dsimp only
  refine hK.out _ _ HXc.out (fun hHeld => ?_)
  try simp only [Act.put, List.setIfInBounds_toArray, List.set_cons_zero, List.set_cons_succ]
  clear hHeld
  refine wpAnyH_ready (rs := [8]) (by kernel_rfl) (by simp) ?_
  refine AllReadyH.cons (by rw [List.getElem?_toArray]; rfl) (fun Kn hK => ?_) AllReadyH.nil
  go_simp
  go_at_call 44
  with_reducible refine (honest_c d HSA.out.d HSA.out.f K kd bk Y Z hKz HCH.out).mono ?_
  rintro e w5 ⟨⟨T, hT, rfl⟩, hb5⟩
  have HB5 := Lib.hid (bel_call HB4.out hb5)
  replace HSA := Lib.hid (HSA.out.belowK d.ks hb5)
  replace HXc := Lib.hid (HXc.out.below hb5)
  clear hb5
  have HT := Lib.hid hT
  clear hT
  try dsimp only
  refine hK.out _ _ HXc.out (fun hHeld => ?_)
  try simp only [Act.put, List.setIfInBounds_toArray, List.set_cons_zero, List.set_cons_succ]
  refine wpAnyH_take (i := 9) (v := ?_) (by rw [List.getElem?_toArray]; rfl) (by kernel_rfl) (by kernel_rfl) (by kernel_rfl) (by exact fun _ _ _ h => h) (Or.inl ⟨by rfl, ?_⟩) (by assumption) ?_
  rotate_left
  · intro w' hSw
    go_simp
    try with_reducible rfl
  try simp only [Act.put, List.setIfInBounds_toArray, List.set_cons_zero, List.set_cons_succ]
  refine wpAnyH_take (i := 10) (v := ?_) (by rw [List.getElem?_toArray]; rfl) (by kernel_rfl) (by kernel_rfl) (by kernel_rfl) (by exact fun _ _ _ h => h) (Or.inl ⟨by rfl, ?_⟩) (by assumption) ?_
  rotate_left
  · intro w' hSw
    go_simp
    try with_reducible rfl
  try simp only [Act.put, List.setIfInBounds_toArray, List.set_cons_zero, List.set_cons_succ]
  refine wpAnyH_take (i := 11) (v := ?_) (by rw [List.getElem?_toArray]; rfl) (by kernel_rfl) (by kernel_rfl) (by kernel_rfl) (by exact fun _ _ _ h => h) (Or.inl ⟨by rfl, ?_⟩) (by assumption) ?_
  rotate_left
  · intro w' hSw
    go_simp
    try with_reducible rfl
  try simp only [Act.put, List.setIfInBounds_toArray, List.set_cons_zero, List.set_cons_succ]
  refine wpAnyH_take (i := 12) (v := ?_) (by rw [List.getElem?_toArray]; rfl) (by kernel_rfl) (by kernel_rfl) (by kernel_rfl) (by exact fun _ _ _ h => h) (Or.inl ⟨by rfl, ?_⟩) (by assumption) ?_
  rotate_left
  · intro w' hSw
    go_simp
    try with_reducible rfl
  try simp only [Act.put, List.setIfInBounds_toArray, List.set_cons_zero, List.set_cons_succ]
  refine wpAnyH_done (by kernel_rfl) ?_ _
  clear hHeld
  go_wp2
  go_ret2
  exact ⟨⟨T, HT.out, rfl⟩, HB5.out⟩
set_option maxHeartbeats 4000000 in
set_option maxRecDepth 1000000 in
theorem pget_n (d : StoreOK D) (K : ByteArray) (kd bk : Int) (Y Z : ByteArray) (w : World) (hKz : K.size ≤ 140737488351232) (hc : Ch.Ok ⟨kd, bk, Y, Z⟩) : Calls Try.prog 12 #[.pointer none, .string K, .agg #[.int .u8 kd, .int .i64 bk, .string Y, .string Z]] w fun e w' => Sr (pickG s0 K.data.toList ⟨kd, bk, Y, Z⟩) e ∧ Below w.heap.size w w' := by
  have HCH := Lib.hid hc
  obtain ⟨hkd, hbk, hy1, hy2⟩ := hc
  simp only at hkd hbk hy1 hy2
  have hfw := fun F G w => (field_way F G w).1
  by_cases h115 : kd = 115
  · subst h115
    have HW : Hid (∀ w, Calls Try.prog 30 #[.int .u8 115] w fun e w' => e = .returned (.agg #[.func (.func 38) #[] #[], .func (.func 39) #[] #[]]) ∧ Below w.heap.size w w') := Lib.hid fun w => by
      have h := wayof_c 115 w
      unfold wayV at h
      simp only [Int.reduceEq, if_true, if_false] at h
      exact h
    go_enter Try.func12, Try.ntmps12
    go_wp2_with fail
    have hbS : Below w.heap.size w (w.alloc (.cells #[.int .u8 115, .int .i64 bk, .string Y, .string Z] 24)) := (Below.refl w.heap.size w).alloc (Nat.le_refl _) _
    have hxS := b4_new w (.int .u8 115) (.int .i64 bk) (.string Y) (.string Z) 24
    generalize w.alloc (.cells #[.int .u8 115, .int .i64 bk, .string Y, .string Z] 24) = wSc at hbS hxS ⊢
    have HB1 := Lib.hid hbS
    have HXc := Lib.hid hxS
    clear hbS hxS
    obtain ⟨nc, dc0, dc1, dc2, dc3⟩ := HXc.out
    go_wp2_with fail
    clear nc dc0 dc1 dc2 dc3
    go_wp2_with fail
    have hdr : Below wSc.heap.size wSc wSc.drew := Below.drewN' (Below.refl wSc.heap.size wSc) 1
    refine wp_region_held_drew (S := fun w' => B4 w.heap.size w' (.int .u8 115) (.int .i64 bk) (.string Y) (.string Z)) (by kernel_rfl) (HXc.out.below hdr) (fun hHeld => ?_)
    clear hHeld
    generalize wSc.drew = wd1 at hdr ⊢
    have HB2 := Lib.hid (bel_call HB1.out hdr)
    replace HXc := Lib.hid (HXc.out.below hdr)
    clear hdr
    have hHeld : B4 w.heap.size wd1 (.int .u8 115) (.int .i64 bk) (.string Y) (.string Z) := HXc.out
    refine wpAnyH_take (i := 0) (v := ?_) (by rw [List.getElem?_toArray]; rfl) (by kernel_rfl) (by kernel_rfl) (by kernel_rfl) (by exact fun _ _ _ h => h) (Or.inl ⟨by rfl, ?_⟩) (by assumption) ?_
    rotate_left
    · intro w' hSw
      go_simp
      try with_reducible rfl
    try simp only [Act.put, List.setIfInBounds_toArray, List.set_cons_zero, List.set_cons_succ]
    refine wpAnyH_take (i := 1) (v := ?_) (by rw [List.getElem?_toArray]; rfl) (by kernel_rfl) (by kernel_rfl) (by kernel_rfl) (by exact fun _ _ _ h => h) (Or.inl ⟨by rfl, ?_⟩) (by assumption) ?_
    rotate_left
    · intro w' hSw
      obtain ⟨_, q00, q01, q02, q03⟩ := hSw
      go_simp
      try with_reducible rfl
    try simp only [Act.put, List.setIfInBounds_toArray, List.set_cons_zero, List.set_cons_succ]
    refine wpAnyH_take (i := 4) (v := ?_) (by rw [List.getElem?_toArray]; rfl) (by kernel_rfl) (by kernel_rfl) (by kernel_rfl) (by exact fun _ _ _ h => h) (Or.inl ⟨by rfl, ?_⟩) (by assumption) ?_
    rotate_left
    · intro w' hSw
      go_simp
      try with_reducible rfl
    try simp only [Act.put, List.setIfInBounds_toArray, List.set_cons_zero, List.set_cons_succ]
    refine wpAnyH_take (i := 6) (v := ?_) (by rw [List.getElem?_toArray]; rfl) (by kernel_rfl) (by kernel_rfl) (by kernel_rfl) (by exact fun _ _ _ h => h) (Or.inl ⟨by rfl, ?_⟩) (by assumption) ?_
    rotate_left
    · intro w' hSw
      go_simp
      try with_reducible rfl
    try simp only [Act.put, List.setIfInBounds_toArray, List.set_cons_zero, List.set_cons_succ]
    refine wpAnyH_take (i := 7) (v := ?_) (by rw [List.getElem?_toArray]; rfl) (by kernel_rfl) (by kernel_rfl) (by kernel_rfl) (by exact fun _ _ _ h => h) (Or.inl ⟨by rfl, ?_⟩) (by assumption) ?_
    rotate_left
    · intro w' hSw
      obtain ⟨_, q00, q01, q02, q03⟩ := hSw
      go_simp
      try with_reducible rfl
    try simp only [Act.put, List.setIfInBounds_toArray, List.set_cons_zero, List.set_cons_succ]
    clear hHeld
    refine wpAnyH_ready (rs := [2]) (by kernel_rfl) (by simp) ?_
    refine AllReadyH.cons (by rw [List.getElem?_toArray]; rfl) (fun Kn hK => ?_) AllReadyH.nil
    go_simp
    go_at_call 30
    with_reducible refine (HW.out _).mono ?_
    rintro e w3 ⟨rfl, hb3⟩
    have HB3 := Lib.hid (bel_call HB2.out hb3)
    replace HXc := Lib.hid (HXc.out.below hb3)
    clear hb3
    try dsimp only
    refine hK.out _ _ HXc.out (fun hHeld => ?_)
    try simp only [Act.put, List.setIfInBounds_toArray, List.set_cons_zero, List.set_cons_succ]
    refine wpAnyH_take (i := 3) (v := ?_) (by rw [List.getElem?_toArray]; rfl) (by kernel_rfl) (by kernel_rfl) (by kernel_rfl) (by exact fun _ _ _ h => h) (Or.inl ⟨by rfl, ?_⟩) (by assumption) ?_
    rotate_left
    · intro w' hSw
      go_simp
      try with_reducible rfl
    try simp only [Act.put, List.setIfInBounds_toArray, List.set_cons_zero, List.set_cons_succ]
    clear hHeld
    refine wpAnyH_ready (rs := [5]) (by kernel_rfl) (by simp) ?_
    refine AllReadyH.cons (by rw [List.getElem?_toArray]; rfl) (fun Kn hK => ?_) AllReadyH.nil
    go_simp
    go_at_call 31
    with_reducible refine (emp_n d (Below.refl _ _)).mono ?_
    rintro e w4 ⟨a1, X1, rfl, hs1, hb4⟩
    have HB4 := Lib.hid (bel_call HB3.out hb4)
    replace HXc := Lib.hid (HXc.out.below hb4)
    have HSA := Lib.hid hs1
    clear hs1 hb4
    try dsimp only
    refine hK.out _ _ HXc.out (fun hHeld => ?_)
    try simp only [Act.put, List.setIfInBounds_toArray, List.set_cons_zero, List.set_cons_succ]
    clear hHeld
    refine wpAnyH_ready (rs := [8]) (by kernel_rfl) (by simp) ?_
    refine AllReadyH.cons (by rw [List.getElem?_toArray]; rfl) (fun Kn hK => ?_) AllReadyH.nil
    go_simp
    go_at_call 38
    with_reducible refine (stale_c d HSA.out.d HSA.out.f K 115 bk Y Z hKz HCH.out).mono ?_
    rintro e w5 ⟨⟨T, hT, rfl⟩, hb5⟩
    have HB5 := Lib.hid (bel_call HB4.out hb5)
    replace HSA := Lib.hid (HSA.out.belowK d.ks hb5)
    replace HXc := Lib.hid (HXc.out.below hb5)
    clear hb5
    have HT := Lib.hid hT
    clear hT
    try dsimp only
    refine hK.out _ _ HXc.out (fun hHeld => ?_)
    try simp only [Act.put, List.setIfInBounds_toArray, List.set_cons_zero, List.set_cons_succ]
    refine wpAnyH_take (i := 9) (v := ?_) (by rw [List.getElem?_toArray]; rfl) (by kernel_rfl) (by kernel_rfl) (by kernel_rfl) (by exact fun _ _ _ h => h) (Or.inl ⟨by rfl, ?_⟩) (by assumption) ?_
    rotate_left
    · intro w' hSw
      go_simp
      try with_reducible rfl
    try simp only [Act.put, List.setIfInBounds_toArray, List.set_cons_zero, List.set_cons_succ]
    refine wpAnyH_take (i := 10) (v := ?_) (by rw [List.getElem?_toArray]; rfl) (by kernel_rfl) (by kernel_rfl) (by kernel_rfl) (by exact fun _ _ _ h => h) (Or.inl ⟨by rfl, ?_⟩) (by assumption) ?_
    rotate_left
    · intro w' hSw
      go_simp
      try with_reducible rfl
    try simp only [Act.put, List.setIfInBounds_toArray, List.set_cons_zero, List.set_cons_succ]
    refine wpAnyH_take (i := 11) (v := ?_) (by rw [List.getElem?_toArray]; rfl) (by kernel_rfl) (by kernel_rfl) (by kernel_rfl) (by exact fun _ _ _ h => h) (Or.inl ⟨by rfl, ?_⟩) (by assumption) ?_
    rotate_left
    · intro w' hSw
      go_simp
      try with_reducible rfl
    try simp only [Act.put, List.setIfInBounds_toArray, List.set_cons_zero, List.set_cons_succ]
    refine wpAnyH_take (i := 12) (v := ?_) (by rw [List.getElem?_toArray]; rfl) (by kernel_rfl) (by kernel_rfl) (by kernel_rfl) (by exact fun _ _ _ h => h) (Or.inl ⟨by rfl, ?_⟩) (by assumption) ?_
    rotate_left
    · intro w' hSw
      go_simp
      try with_reducible rfl
    try simp only [Act.put, List.setIfInBounds_toArray, List.set_cons_zero, List.set_cons_succ]
    refine wpAnyH_done (by kernel_rfl) ?_ _
    clear hHeld
    go_wp2
    go_ret2
    exact ⟨⟨T, HT.out, rfl⟩, HB5.out⟩
  by_cases h100 : kd = 100
  · subst h100
    have HW : Hid (∀ w, Calls Try.prog 30 #[.int .u8 100] w fun e w' => e = .returned (.agg #[.func (.func 40) #[] #[], .func (.func 41) #[] #[]]) ∧ Below w.heap.size w w') := Lib.hid fun w => by
      have h := wayof_c 100 w
      unfold wayV at h
      simp only [Int.reduceEq, if_true, if_false] at h
      exact h
    rw [pick_gone]
    go_enter Try.func12, Try.ntmps12
    go_wp2_with fail
    have hbS : Below w.heap.size w (w.alloc (.cells #[.int .u8 100, .int .i64 bk, .string Y, .string Z] 24)) := (Below.refl w.heap.size w).alloc (Nat.le_refl _) _
    have hxS := b4_new w (.int .u8 100) (.int .i64 bk) (.string Y) (.string Z) 24
    generalize w.alloc (.cells #[.int .u8 100, .int .i64 bk, .string Y, .string Z] 24) = wSc at hbS hxS ⊢
    have HB1 := Lib.hid hbS
    have HXc := Lib.hid hxS
    clear hbS hxS
    obtain ⟨nc, dc0, dc1, dc2, dc3⟩ := HXc.out
    go_wp2_with fail
    clear nc dc0 dc1 dc2 dc3
    go_wp2_with fail
    have hdr : Below wSc.heap.size wSc wSc.drew := Below.drewN' (Below.refl wSc.heap.size wSc) 1
    refine wp_region_held_drew (S := fun w' => B4 w.heap.size w' (.int .u8 100) (.int .i64 bk) (.string Y) (.string Z)) (by kernel_rfl) (HXc.out.below hdr) (fun hHeld => ?_)
    clear hHeld
    generalize wSc.drew = wd1 at hdr ⊢
    have HB2 := Lib.hid (bel_call HB1.out hdr)
    replace HXc := Lib.hid (HXc.out.below hdr)
    clear hdr
    have hHeld : B4 w.heap.size wd1 (.int .u8 100) (.int .i64 bk) (.string Y) (.string Z) := HXc.out
    refine wpAnyH_take (i := 0) (v := ?_) (by rw [List.getElem?_toArray]; rfl) (by kernel_rfl) (by kernel_rfl) (by kernel_rfl) (by exact fun _ _ _ h => h) (Or.inl ⟨by rfl, ?_⟩) (by assumption) ?_
    rotate_left
    · intro w' hSw
      go_simp
      try with_reducible rfl
    try simp only [Act.put, List.setIfInBounds_toArray, List.set_cons_zero, List.set_cons_succ]
    refine wpAnyH_take (i := 1) (v := ?_) (by rw [List.getElem?_toArray]; rfl) (by kernel_rfl) (by kernel_rfl) (by kernel_rfl) (by exact fun _ _ _ h => h) (Or.inl ⟨by rfl, ?_⟩) (by assumption) ?_
    rotate_left
    · intro w' hSw
      obtain ⟨_, q00, q01, q02, q03⟩ := hSw
      go_simp
      try with_reducible rfl
    try simp only [Act.put, List.setIfInBounds_toArray, List.set_cons_zero, List.set_cons_succ]
    refine wpAnyH_take (i := 4) (v := ?_) (by rw [List.getElem?_toArray]; rfl) (by kernel_rfl) (by kernel_rfl) (by kernel_rfl) (by exact fun _ _ _ h => h) (Or.inl ⟨by rfl, ?_⟩) (by assumption) ?_
    rotate_left
    · intro w' hSw
      go_simp
      try with_reducible rfl
    try simp only [Act.put, List.setIfInBounds_toArray, List.set_cons_zero, List.set_cons_succ]
    refine wpAnyH_take (i := 6) (v := ?_) (by rw [List.getElem?_toArray]; rfl) (by kernel_rfl) (by kernel_rfl) (by kernel_rfl) (by exact fun _ _ _ h => h) (Or.inl ⟨by rfl, ?_⟩) (by assumption) ?_
    rotate_left
    · intro w' hSw
      go_simp
      try with_reducible rfl
    try simp only [Act.put, List.setIfInBounds_toArray, List.set_cons_zero, List.set_cons_succ]
    refine wpAnyH_take (i := 7) (v := ?_) (by rw [List.getElem?_toArray]; rfl) (by kernel_rfl) (by kernel_rfl) (by kernel_rfl) (by exact fun _ _ _ h => h) (Or.inl ⟨by rfl, ?_⟩) (by assumption) ?_
    rotate_left
    · intro w' hSw
      obtain ⟨_, q00, q01, q02, q03⟩ := hSw
      go_simp
      try with_reducible rfl
    try simp only [Act.put, List.setIfInBounds_toArray, List.set_cons_zero, List.set_cons_succ]
    clear hHeld
    refine wpAnyH_ready (rs := [2]) (by kernel_rfl) (by simp) ?_
    refine AllReadyH.cons (by rw [List.getElem?_toArray]; rfl) (fun Kn hK => ?_) AllReadyH.nil
    go_simp
    go_at_call 30
    with_reducible refine (HW.out _).mono ?_
    rintro e w3 ⟨rfl, hb3⟩
    have HB3 := Lib.hid (bel_call HB2.out hb3)
    replace HXc := Lib.hid (HXc.out.below hb3)
    clear hb3
    try dsimp only
    refine hK.out _ _ HXc.out (fun hHeld => ?_)
    try simp only [Act.put, List.setIfInBounds_toArray, List.set_cons_zero, List.set_cons_succ]
    refine wpAnyH_take (i := 3) (v := ?_) (by rw [List.getElem?_toArray]; rfl) (by kernel_rfl) (by kernel_rfl) (by kernel_rfl) (by exact fun _ _ _ h => h) (Or.inl ⟨by rfl, ?_⟩) (by assumption) ?_
    rotate_left
    · intro w' hSw
      go_simp
      try with_reducible rfl
    try simp only [Act.put, List.setIfInBounds_toArray, List.set_cons_zero, List.set_cons_succ]
    clear hHeld
    refine wpAnyH_ready (rs := [5]) (by kernel_rfl) (by simp) ?_
    refine AllReadyH.cons (by rw [List.getElem?_toArray]; rfl) (fun Kn hK => ?_) AllReadyH.nil
    go_simp
    go_at_call 31
    with_reducible refine (emp_n d (Below.refl _ _)).mono ?_
    rintro e w4 ⟨a1, X1, rfl, hs1, hb4⟩
    have HB4 := Lib.hid (bel_call HB3.out hb4)
    replace HXc := Lib.hid (HXc.out.below hb4)
    have HSA := Lib.hid hs1
    clear hs1 hb4
    try dsimp only
    refine hK.out _ _ HXc.out (fun hHeld => ?_)
    try simp only [Act.put, List.setIfInBounds_toArray, List.set_cons_zero, List.set_cons_succ]
    clear hHeld
    refine wpAnyH_ready (rs := [8]) (by kernel_rfl) (by simp) ?_
    refine AllReadyH.cons (by rw [List.getElem?_toArray]; rfl) (fun Kn hK => ?_) AllReadyH.nil
    go_simp
    go_at_call 40
    with_reducible refine (gone_c K 100 bk Y Z (some a1) _).mono ?_
    rintro e w5 ⟨⟨T, hT, rfl⟩, hb5⟩
    have HB5 := Lib.hid (bel_call HB4.out hb5)
    replace HSA := Lib.hid (HSA.out.belowK d.ks hb5)
    replace HXc := Lib.hid (HXc.out.below hb5)
    clear hb5
    have HT := Lib.hid hT
    clear hT
    try dsimp only
    refine hK.out _ _ HXc.out (fun hHeld => ?_)
    try simp only [Act.put, List.setIfInBounds_toArray, List.set_cons_zero, List.set_cons_succ]
    refine wpAnyH_take (i := 9) (v := ?_) (by rw [List.getElem?_toArray]; rfl) (by kernel_rfl) (by kernel_rfl) (by kernel_rfl) (by exact fun _ _ _ h => h) (Or.inl ⟨by rfl, ?_⟩) (by assumption) ?_
    rotate_left
    · intro w' hSw
      go_simp
      try with_reducible rfl
    try simp only [Act.put, List.setIfInBounds_toArray, List.set_cons_zero, List.set_cons_succ]
    refine wpAnyH_take (i := 10) (v := ?_) (by rw [List.getElem?_toArray]; rfl) (by kernel_rfl) (by kernel_rfl) (by kernel_rfl) (by exact fun _ _ _ h => h) (Or.inl ⟨by rfl, ?_⟩) (by assumption) ?_
    rotate_left
    · intro w' hSw
      go_simp
      try with_reducible rfl
    try simp only [Act.put, List.setIfInBounds_toArray, List.set_cons_zero, List.set_cons_succ]
    refine wpAnyH_take (i := 11) (v := ?_) (by rw [List.getElem?_toArray]; rfl) (by kernel_rfl) (by kernel_rfl) (by kernel_rfl) (by exact fun _ _ _ h => h) (Or.inl ⟨by rfl, ?_⟩) (by assumption) ?_
    rotate_left
    · intro w' hSw
      go_simp
      try with_reducible rfl
    try simp only [Act.put, List.setIfInBounds_toArray, List.set_cons_zero, List.set_cons_succ]
    refine wpAnyH_take (i := 12) (v := ?_) (by rw [List.getElem?_toArray]; rfl) (by kernel_rfl) (by kernel_rfl) (by kernel_rfl) (by exact fun _ _ _ h => h) (Or.inl ⟨by rfl, ?_⟩) (by assumption) ?_
    rotate_left
    · intro w' hSw
      go_simp
      try with_reducible rfl
    try simp only [Act.put, List.setIfInBounds_toArray, List.set_cons_zero, List.set_cons_succ]
    refine wpAnyH_done (by kernel_rfl) ?_ _
    clear hHeld
    go_wp2
    go_ret2
    exact ⟨⟨T, HT.out, rfl⟩, HB5.out⟩
  by_cases h120 : kd = 120
  · subst h120
    have HW : Hid (∀ w, Calls Try.prog 30 #[.int .u8 120] w fun e w' => e = .returned (.agg #[.func (.func 42) #[] #[], .func (.func 39) #[] #[]]) ∧ Below w.heap.size w w') := Lib.hid fun w => by
      have h := wayof_c 120 w
      unfold wayV at h
      simp only [Int.reduceEq, if_true, if_false] at h
      exact h
    rw [pick_other]
    go_enter Try.func12, Try.ntmps12
    go_wp2_with fail
    have hbS : Below w.heap.size w (w.alloc (.cells #[.int .u8 120, .int .i64 bk, .string Y, .string Z] 24)) := (Below.refl w.heap.size w).alloc (Nat.le_refl _) _
    have hxS := b4_new w (.int .u8 120) (.int .i64 bk) (.string Y) (.string Z) 24
    generalize w.alloc (.cells #[.int .u8 120, .int .i64 bk, .string Y, .string Z] 24) = wSc at hbS hxS ⊢
    have HB1 := Lib.hid hbS
    have HXc := Lib.hid hxS
    clear hbS hxS
    obtain ⟨nc, dc0, dc1, dc2, dc3⟩ := HXc.out
    go_wp2_with fail
    clear nc dc0 dc1 dc2 dc3
    go_wp2_with fail
    have hdr : Below wSc.heap.size wSc wSc.drew := Below.drewN' (Below.refl wSc.heap.size wSc) 1
    refine wp_region_held_drew (S := fun w' => B4 w.heap.size w' (.int .u8 120) (.int .i64 bk) (.string Y) (.string Z)) (by kernel_rfl) (HXc.out.below hdr) (fun hHeld => ?_)
    clear hHeld
    generalize wSc.drew = wd1 at hdr ⊢
    have HB2 := Lib.hid (bel_call HB1.out hdr)
    replace HXc := Lib.hid (HXc.out.below hdr)
    clear hdr
    have hHeld : B4 w.heap.size wd1 (.int .u8 120) (.int .i64 bk) (.string Y) (.string Z) := HXc.out
    refine wpAnyH_take (i := 0) (v := ?_) (by rw [List.getElem?_toArray]; rfl) (by kernel_rfl) (by kernel_rfl) (by kernel_rfl) (by exact fun _ _ _ h => h) (Or.inl ⟨by rfl, ?_⟩) (by assumption) ?_
    rotate_left
    · intro w' hSw
      go_simp
      try with_reducible rfl
    try simp only [Act.put, List.setIfInBounds_toArray, List.set_cons_zero, List.set_cons_succ]
    refine wpAnyH_take (i := 1) (v := ?_) (by rw [List.getElem?_toArray]; rfl) (by kernel_rfl) (by kernel_rfl) (by kernel_rfl) (by exact fun _ _ _ h => h) (Or.inl ⟨by rfl, ?_⟩) (by assumption) ?_
    rotate_left
    · intro w' hSw
      obtain ⟨_, q00, q01, q02, q03⟩ := hSw
      go_simp
      try with_reducible rfl
    try simp only [Act.put, List.setIfInBounds_toArray, List.set_cons_zero, List.set_cons_succ]
    refine wpAnyH_take (i := 4) (v := ?_) (by rw [List.getElem?_toArray]; rfl) (by kernel_rfl) (by kernel_rfl) (by kernel_rfl) (by exact fun _ _ _ h => h) (Or.inl ⟨by rfl, ?_⟩) (by assumption) ?_
    rotate_left
    · intro w' hSw
      go_simp
      try with_reducible rfl
    try simp only [Act.put, List.setIfInBounds_toArray, List.set_cons_zero, List.set_cons_succ]
    refine wpAnyH_take (i := 6) (v := ?_) (by rw [List.getElem?_toArray]; rfl) (by kernel_rfl) (by kernel_rfl) (by kernel_rfl) (by exact fun _ _ _ h => h) (Or.inl ⟨by rfl, ?_⟩) (by assumption) ?_
    rotate_left
    · intro w' hSw
      go_simp
      try with_reducible rfl
    try simp only [Act.put, List.setIfInBounds_toArray, List.set_cons_zero, List.set_cons_succ]
    refine wpAnyH_take (i := 7) (v := ?_) (by rw [List.getElem?_toArray]; rfl) (by kernel_rfl) (by kernel_rfl) (by kernel_rfl) (by exact fun _ _ _ h => h) (Or.inl ⟨by rfl, ?_⟩) (by assumption) ?_
    rotate_left
    · intro w' hSw
      obtain ⟨_, q00, q01, q02, q03⟩ := hSw
      go_simp
      try with_reducible rfl
    try simp only [Act.put, List.setIfInBounds_toArray, List.set_cons_zero, List.set_cons_succ]
    clear hHeld
    refine wpAnyH_ready (rs := [2]) (by kernel_rfl) (by simp) ?_
    refine AllReadyH.cons (by rw [List.getElem?_toArray]; rfl) (fun Kn hK => ?_) AllReadyH.nil
    go_simp
    go_at_call 30
    with_reducible refine (HW.out _).mono ?_
    rintro e w3 ⟨rfl, hb3⟩
    have HB3 := Lib.hid (bel_call HB2.out hb3)
    replace HXc := Lib.hid (HXc.out.below hb3)
    clear hb3
    try dsimp only
    refine hK.out _ _ HXc.out (fun hHeld => ?_)
    try simp only [Act.put, List.setIfInBounds_toArray, List.set_cons_zero, List.set_cons_succ]
    refine wpAnyH_take (i := 3) (v := ?_) (by rw [List.getElem?_toArray]; rfl) (by kernel_rfl) (by kernel_rfl) (by kernel_rfl) (by exact fun _ _ _ h => h) (Or.inl ⟨by rfl, ?_⟩) (by assumption) ?_
    rotate_left
    · intro w' hSw
      go_simp
      try with_reducible rfl
    try simp only [Act.put, List.setIfInBounds_toArray, List.set_cons_zero, List.set_cons_succ]
    clear hHeld
    refine wpAnyH_ready (rs := [5]) (by kernel_rfl) (by simp) ?_
    refine AllReadyH.cons (by rw [List.getElem?_toArray]; rfl) (fun Kn hK => ?_) AllReadyH.nil
    go_simp
    go_at_call 31
    with_reducible refine (emp_n d (Below.refl _ _)).mono ?_
    rintro e w4 ⟨a1, X1, rfl, hs1, hb4⟩
    have HB4 := Lib.hid (bel_call HB3.out hb4)
    replace HXc := Lib.hid (HXc.out.below hb4)
    have HSA := Lib.hid hs1
    clear hs1 hb4
    try dsimp only
    refine hK.out _ _ HXc.out (fun hHeld => ?_)
    try simp only [Act.put, List.setIfInBounds_toArray, List.set_cons_zero, List.set_cons_succ]
    clear hHeld
    refine wpAnyH_ready (rs := [8]) (by kernel_rfl) (by simp) ?_
    refine AllReadyH.cons (by rw [List.getElem?_toArray]; rfl) (fun Kn hK => ?_) AllReadyH.nil
    go_simp
    go_at_call 42
    with_reducible refine (other_c d HSA.out.d HSA.out.f K 120 bk Y Z hKz HCH.out).mono ?_
    rintro e w5 ⟨⟨T, hT, rfl⟩, hb5⟩
    have HB5 := Lib.hid (bel_call HB4.out hb5)
    replace HSA := Lib.hid (HSA.out.belowK d.ks hb5)
    replace HXc := Lib.hid (HXc.out.below hb5)
    clear hb5
    have HT := Lib.hid hT
    clear hT
    try dsimp only
    refine hK.out _ _ HXc.out (fun hHeld => ?_)
    try simp only [Act.put, List.setIfInBounds_toArray, List.set_cons_zero, List.set_cons_succ]
    refine wpAnyH_take (i := 9) (v := ?_) (by rw [List.getElem?_toArray]; rfl) (by kernel_rfl) (by kernel_rfl) (by kernel_rfl) (by exact fun _ _ _ h => h) (Or.inl ⟨by rfl, ?_⟩) (by assumption) ?_
    rotate_left
    · intro w' hSw
      go_simp
      try with_reducible rfl
    try simp only [Act.put, List.setIfInBounds_toArray, List.set_cons_zero, List.set_cons_succ]
    refine wpAnyH_take (i := 10) (v := ?_) (by rw [List.getElem?_toArray]; rfl) (by kernel_rfl) (by kernel_rfl) (by kernel_rfl) (by exact fun _ _ _ h => h) (Or.inl ⟨by rfl, ?_⟩) (by assumption) ?_
    rotate_left
    · intro w' hSw
      go_simp
      try with_reducible rfl
    try simp only [Act.put, List.setIfInBounds_toArray, List.set_cons_zero, List.set_cons_succ]
    refine wpAnyH_take (i := 11) (v := ?_) (by rw [List.getElem?_toArray]; rfl) (by kernel_rfl) (by kernel_rfl) (by kernel_rfl) (by exact fun _ _ _ h => h) (Or.inl ⟨by rfl, ?_⟩) (by assumption) ?_
    rotate_left
    · intro w' hSw
      go_simp
      try with_reducible rfl
    try simp only [Act.put, List.setIfInBounds_toArray, List.set_cons_zero, List.set_cons_succ]
    refine wpAnyH_take (i := 12) (v := ?_) (by rw [List.getElem?_toArray]; rfl) (by kernel_rfl) (by kernel_rfl) (by kernel_rfl) (by exact fun _ _ _ h => h) (Or.inl ⟨by rfl, ?_⟩) (by assumption) ?_
    rotate_left
    · intro w' hSw
      go_simp
      try with_reducible rfl
    try simp only [Act.put, List.setIfInBounds_toArray, List.set_cons_zero, List.set_cons_succ]
    refine wpAnyH_done (by kernel_rfl) ?_ _
    clear hHeld
    go_wp2
    go_ret2
    exact ⟨⟨T, HT.out, rfl⟩, HB5.out⟩
  by_cases h98 : kd = 98
  · subst h98
    have HW : Hid (∀ w, Calls Try.prog 30 #[.int .u8 98] w fun e w' => e = .returned (.agg #[.func (.func 43) #[] #[], .func (.func 39) #[] #[]]) ∧ Below w.heap.size w w') := Lib.hid fun w => by
      have h := wayof_c 98 w
      unfold wayV at h
      simp only [Int.reduceEq, if_true, if_false] at h
      exact h
    go_enter Try.func12, Try.ntmps12
    go_wp2_with fail
    have hbS : Below w.heap.size w (w.alloc (.cells #[.int .u8 98, .int .i64 bk, .string Y, .string Z] 24)) := (Below.refl w.heap.size w).alloc (Nat.le_refl _) _
    have hxS := b4_new w (.int .u8 98) (.int .i64 bk) (.string Y) (.string Z) 24
    generalize w.alloc (.cells #[.int .u8 98, .int .i64 bk, .string Y, .string Z] 24) = wSc at hbS hxS ⊢
    have HB1 := Lib.hid hbS
    have HXc := Lib.hid hxS
    clear hbS hxS
    obtain ⟨nc, dc0, dc1, dc2, dc3⟩ := HXc.out
    go_wp2_with fail
    clear nc dc0 dc1 dc2 dc3
    go_wp2_with fail
    have hdr : Below wSc.heap.size wSc wSc.drew := Below.drewN' (Below.refl wSc.heap.size wSc) 1
    refine wp_region_held_drew (S := fun w' => B4 w.heap.size w' (.int .u8 98) (.int .i64 bk) (.string Y) (.string Z)) (by kernel_rfl) (HXc.out.below hdr) (fun hHeld => ?_)
    clear hHeld
    generalize wSc.drew = wd1 at hdr ⊢
    have HB2 := Lib.hid (bel_call HB1.out hdr)
    replace HXc := Lib.hid (HXc.out.below hdr)
    clear hdr
    have hHeld : B4 w.heap.size wd1 (.int .u8 98) (.int .i64 bk) (.string Y) (.string Z) := HXc.out
    refine wpAnyH_take (i := 0) (v := ?_) (by rw [List.getElem?_toArray]; rfl) (by kernel_rfl) (by kernel_rfl) (by kernel_rfl) (by exact fun _ _ _ h => h) (Or.inl ⟨by rfl, ?_⟩) (by assumption) ?_
    rotate_left
    · intro w' hSw
      go_simp
      try with_reducible rfl
    try simp only [Act.put, List.setIfInBounds_toArray, List.set_cons_zero, List.set_cons_succ]
    refine wpAnyH_take (i := 1) (v := ?_) (by rw [List.getElem?_toArray]; rfl) (by kernel_rfl) (by kernel_rfl) (by kernel_rfl) (by exact fun _ _ _ h => h) (Or.inl ⟨by rfl, ?_⟩) (by assumption) ?_
    rotate_left
    · intro w' hSw
      obtain ⟨_, q00, q01, q02, q03⟩ := hSw
      go_simp
      try with_reducible rfl
    try simp only [Act.put, List.setIfInBounds_toArray, List.set_cons_zero, List.set_cons_succ]
    refine wpAnyH_take (i := 4) (v := ?_) (by rw [List.getElem?_toArray]; rfl) (by kernel_rfl) (by kernel_rfl) (by kernel_rfl) (by exact fun _ _ _ h => h) (Or.inl ⟨by rfl, ?_⟩) (by assumption) ?_
    rotate_left
    · intro w' hSw
      go_simp
      try with_reducible rfl
    try simp only [Act.put, List.setIfInBounds_toArray, List.set_cons_zero, List.set_cons_succ]
    refine wpAnyH_take (i := 6) (v := ?_) (by rw [List.getElem?_toArray]; rfl) (by kernel_rfl) (by kernel_rfl) (by kernel_rfl) (by exact fun _ _ _ h => h) (Or.inl ⟨by rfl, ?_⟩) (by assumption) ?_
    rotate_left
    · intro w' hSw
      go_simp
      try with_reducible rfl
    try simp only [Act.put, List.setIfInBounds_toArray, List.set_cons_zero, List.set_cons_succ]
    refine wpAnyH_take (i := 7) (v := ?_) (by rw [List.getElem?_toArray]; rfl) (by kernel_rfl) (by kernel_rfl) (by kernel_rfl) (by exact fun _ _ _ h => h) (Or.inl ⟨by rfl, ?_⟩) (by assumption) ?_
    rotate_left
    · intro w' hSw
      obtain ⟨_, q00, q01, q02, q03⟩ := hSw
      go_simp
      try with_reducible rfl
    try simp only [Act.put, List.setIfInBounds_toArray, List.set_cons_zero, List.set_cons_succ]
    clear hHeld
    refine wpAnyH_ready (rs := [2]) (by kernel_rfl) (by simp) ?_
    refine AllReadyH.cons (by rw [List.getElem?_toArray]; rfl) (fun Kn hK => ?_) AllReadyH.nil
    go_simp
    go_at_call 30
    with_reducible refine (HW.out _).mono ?_
    rintro e w3 ⟨rfl, hb3⟩
    have HB3 := Lib.hid (bel_call HB2.out hb3)
    replace HXc := Lib.hid (HXc.out.below hb3)
    clear hb3
    try dsimp only
    refine hK.out _ _ HXc.out (fun hHeld => ?_)
    try simp only [Act.put, List.setIfInBounds_toArray, List.set_cons_zero, List.set_cons_succ]
    refine wpAnyH_take (i := 3) (v := ?_) (by rw [List.getElem?_toArray]; rfl) (by kernel_rfl) (by kernel_rfl) (by kernel_rfl) (by exact fun _ _ _ h => h) (Or.inl ⟨by rfl, ?_⟩) (by assumption) ?_
    rotate_left
    · intro w' hSw
      go_simp
      try with_reducible rfl
    try simp only [Act.put, List.setIfInBounds_toArray, List.set_cons_zero, List.set_cons_succ]
    clear hHeld
    refine wpAnyH_ready (rs := [5]) (by kernel_rfl) (by simp) ?_
    refine AllReadyH.cons (by rw [List.getElem?_toArray]; rfl) (fun Kn hK => ?_) AllReadyH.nil
    go_simp
    go_at_call 31
    with_reducible refine (emp_n d (Below.refl _ _)).mono ?_
    rintro e w4 ⟨a1, X1, rfl, hs1, hb4⟩
    have HB4 := Lib.hid (bel_call HB3.out hb4)
    replace HXc := Lib.hid (HXc.out.below hb4)
    have HSA := Lib.hid hs1
    clear hs1 hb4
    try dsimp only
    refine hK.out _ _ HXc.out (fun hHeld => ?_)
    try simp only [Act.put, List.setIfInBounds_toArray, List.set_cons_zero, List.set_cons_succ]
    clear hHeld
    refine wpAnyH_ready (rs := [8]) (by kernel_rfl) (by simp) ?_
    refine AllReadyH.cons (by rw [List.getElem?_toArray]; rfl) (fun Kn hK => ?_) AllReadyH.nil
    go_simp
    go_at_call 43
    with_reducible refine (made_g s0 K.data.toList K 98 bk Y Z (some a1) _).mono ?_
    rintro e w5 ⟨⟨T, hT, rfl⟩, hb5⟩
    have HB5 := Lib.hid (bel_call HB4.out hb5)
    replace HSA := Lib.hid (HSA.out.belowK d.ks hb5)
    replace HXc := Lib.hid (HXc.out.below hb5)
    clear hb5
    have HT := Lib.hid hT
    clear hT
    try dsimp only
    refine hK.out _ _ HXc.out (fun hHeld => ?_)
    try simp only [Act.put, List.setIfInBounds_toArray, List.set_cons_zero, List.set_cons_succ]
    refine wpAnyH_take (i := 9) (v := ?_) (by rw [List.getElem?_toArray]; rfl) (by kernel_rfl) (by kernel_rfl) (by kernel_rfl) (by exact fun _ _ _ h => h) (Or.inl ⟨by rfl, ?_⟩) (by assumption) ?_
    rotate_left
    · intro w' hSw
      go_simp
      try with_reducible rfl
    try simp only [Act.put, List.setIfInBounds_toArray, List.set_cons_zero, List.set_cons_succ]
    refine wpAnyH_take (i := 10) (v := ?_) (by rw [List.getElem?_toArray]; rfl) (by kernel_rfl) (by kernel_rfl) (by kernel_rfl) (by exact fun _ _ _ h => h) (Or.inl ⟨by rfl, ?_⟩) (by assumption) ?_
    rotate_left
    · intro w' hSw
      go_simp
      try with_reducible rfl
    try simp only [Act.put, List.setIfInBounds_toArray, List.set_cons_zero, List.set_cons_succ]
    refine wpAnyH_take (i := 11) (v := ?_) (by rw [List.getElem?_toArray]; rfl) (by kernel_rfl) (by kernel_rfl) (by kernel_rfl) (by exact fun _ _ _ h => h) (Or.inl ⟨by rfl, ?_⟩) (by assumption) ?_
    rotate_left
    · intro w' hSw
      go_simp
      try with_reducible rfl
    try simp only [Act.put, List.setIfInBounds_toArray, List.set_cons_zero, List.set_cons_succ]
    refine wpAnyH_take (i := 12) (v := ?_) (by rw [List.getElem?_toArray]; rfl) (by kernel_rfl) (by kernel_rfl) (by kernel_rfl) (by exact fun _ _ _ h => h) (Or.inl ⟨by rfl, ?_⟩) (by assumption) ?_
    rotate_left
    · intro w' hSw
      go_simp
      try with_reducible rfl
    try simp only [Act.put, List.setIfInBounds_toArray, List.set_cons_zero, List.set_cons_succ]
    refine wpAnyH_done (by kernel_rfl) ?_ _
    clear hHeld
    go_wp2
    go_ret2
    exact ⟨⟨T, HT.out, rfl⟩, HB5.out⟩
  have HW : Hid (∀ w, Calls Try.prog 30 #[.int .u8 kd] w fun e w' => e = .returned (.agg #[.func (.func 44) #[] #[], .func (.func 39) #[] #[]]) ∧ Below w.heap.size w w') := Lib.hid fun w => by
    have h := wayof_c kd w
    unfold wayV at h
    rw [if_neg h115, if_neg h100, if_neg h120, if_neg h98] at h
    exact h
  rw [pick_else h115 h100 h120 h98]
  go_enter Try.func12, Try.ntmps12
  go_wp2_with fail
  have hbS : Below w.heap.size w (w.alloc (.cells #[.int .u8 kd, .int .i64 bk, .string Y, .string Z] 24)) := (Below.refl w.heap.size w).alloc (Nat.le_refl _) _
  have hxS := b4_new w (.int .u8 kd) (.int .i64 bk) (.string Y) (.string Z) 24
  generalize w.alloc (.cells #[.int .u8 kd, .int .i64 bk, .string Y, .string Z] 24) = wSc at hbS hxS ⊢
  have HB1 := Lib.hid hbS
  have HXc := Lib.hid hxS
  clear hbS hxS
  obtain ⟨nc, dc0, dc1, dc2, dc3⟩ := HXc.out
  go_wp2_with fail
  clear nc dc0 dc1 dc2 dc3
  go_wp2_with fail
  have hdr : Below wSc.heap.size wSc wSc.drew := Below.drewN' (Below.refl wSc.heap.size wSc) 1
  refine wp_region_held_drew (S := fun w' => B4 w.heap.size w' (.int .u8 kd) (.int .i64 bk) (.string Y) (.string Z)) (by kernel_rfl) (HXc.out.below hdr) (fun hHeld => ?_)
  clear hHeld
  generalize wSc.drew = wd1 at hdr ⊢
  have HB2 := Lib.hid (bel_call HB1.out hdr)
  replace HXc := Lib.hid (HXc.out.below hdr)
  clear hdr
  have hHeld : B4 w.heap.size wd1 (.int .u8 kd) (.int .i64 bk) (.string Y) (.string Z) := HXc.out
  refine wpAnyH_take (i := 0) (v := ?_) (by rw [List.getElem?_toArray]; rfl) (by kernel_rfl) (by kernel_rfl) (by kernel_rfl) (by exact fun _ _ _ h => h) (Or.inl ⟨by rfl, ?_⟩) (by assumption) ?_
  rotate_left
  · intro w' hSw
    go_simp
    try with_reducible rfl
  try simp only [Act.put, List.setIfInBounds_toArray, List.set_cons_zero, List.set_cons_succ]
  refine wpAnyH_take (i := 1) (v := ?_) (by rw [List.getElem?_toArray]; rfl) (by kernel_rfl) (by kernel_rfl) (by kernel_rfl) (by exact fun _ _ _ h => h) (Or.inl ⟨by rfl, ?_⟩) (by assumption) ?_
  rotate_left
  · intro w' hSw
    obtain ⟨_, q00, q01, q02, q03⟩ := hSw
    go_simp
    try with_reducible rfl
  try simp only [Act.put, List.setIfInBounds_toArray, List.set_cons_zero, List.set_cons_succ]
  refine wpAnyH_take (i := 4) (v := ?_) (by rw [List.getElem?_toArray]; rfl) (by kernel_rfl) (by kernel_rfl) (by kernel_rfl) (by exact fun _ _ _ h => h) (Or.inl ⟨by rfl, ?_⟩) (by assumption) ?_
  rotate_left
  · intro w' hSw
    go_simp
    try with_reducible rfl
  try simp only [Act.put, List.setIfInBounds_toArray, List.set_cons_zero, List.set_cons_succ]
  refine wpAnyH_take (i := 6) (v := ?_) (by rw [List.getElem?_toArray]; rfl) (by kernel_rfl) (by kernel_rfl) (by kernel_rfl) (by exact fun _ _ _ h => h) (Or.inl ⟨by rfl, ?_⟩) (by assumption) ?_
  rotate_left
  · intro w' hSw
    go_simp
    try with_reducible rfl
  try simp only [Act.put, List.setIfInBounds_toArray, List.set_cons_zero, List.set_cons_succ]
  refine wpAnyH_take (i := 7) (v := ?_) (by rw [List.getElem?_toArray]; rfl) (by kernel_rfl) (by kernel_rfl) (by kernel_rfl) (by exact fun _ _ _ h => h) (Or.inl ⟨by rfl, ?_⟩) (by assumption) ?_
  rotate_left
  · intro w' hSw
    obtain ⟨_, q00, q01, q02, q03⟩ := hSw
    go_simp
    try with_reducible rfl
  try simp only [Act.put, List.setIfInBounds_toArray, List.set_cons_zero, List.set_cons_succ]
  clear hHeld
  refine wpAnyH_ready (rs := [2]) (by kernel_rfl) (by simp) ?_
  refine AllReadyH.cons (by rw [List.getElem?_toArray]; rfl) (fun Kn hK => ?_) AllReadyH.nil
  go_simp
  go_at_call 30
  with_reducible refine (HW.out _).mono ?_
  rintro e w3 ⟨rfl, hb3⟩
  have HB3 := Lib.hid (bel_call HB2.out hb3)
  replace HXc := Lib.hid (HXc.out.below hb3)
  clear hb3
  try dsimp only
  refine hK.out _ _ HXc.out (fun hHeld => ?_)
  try simp only [Act.put, List.setIfInBounds_toArray, List.set_cons_zero, List.set_cons_succ]
  refine wpAnyH_take (i := 3) (v := ?_) (by rw [List.getElem?_toArray]; rfl) (by kernel_rfl) (by kernel_rfl) (by kernel_rfl) (by exact fun _ _ _ h => h) (Or.inl ⟨by rfl, ?_⟩) (by assumption) ?_
  rotate_left
  · intro w' hSw
    go_simp
    try with_reducible rfl
  try simp only [Act.put, List.setIfInBounds_toArray, List.set_cons_zero, List.set_cons_succ]
  clear hHeld
  refine wpAnyH_ready (rs := [5]) (by kernel_rfl) (by simp) ?_
  refine AllReadyH.cons (by rw [List.getElem?_toArray]; rfl) (fun Kn hK => ?_) AllReadyH.nil
  go_simp
  go_at_call 31
  with_reducible refine (emp_n d (Below.refl _ _)).mono ?_
  rintro e w4 ⟨a1, X1, rfl, hs1, hb4⟩
  have HB4 := Lib.hid (bel_call HB3.out hb4)
  replace HXc := Lib.hid (HXc.out.below hb4)
  have HSA := Lib.hid hs1
  clear hs1 hb4
  try dsimp only
  refine hK.out _ _ HXc.out (fun hHeld => ?_)
  try simp only [Act.put, List.setIfInBounds_toArray, List.set_cons_zero, List.set_cons_succ]
  clear hHeld
  refine wpAnyH_ready (rs := [8]) (by kernel_rfl) (by simp) ?_
  refine AllReadyH.cons (by rw [List.getElem?_toArray]; rfl) (fun Kn hK => ?_) AllReadyH.nil
  go_simp
  go_at_call 44
  with_reducible refine (honest_c d HSA.out.d HSA.out.f K kd bk Y Z hKz HCH.out).mono ?_
  rintro e w5 ⟨⟨T, hT, rfl⟩, hb5⟩
  have HB5 := Lib.hid (bel_call HB4.out hb5)
  replace HSA := Lib.hid (HSA.out.belowK d.ks hb5)
  replace HXc := Lib.hid (HXc.out.below hb5)
  clear hb5
  have HT := Lib.hid hT
  clear hT
  try dsimp only
  refine hK.out _ _ HXc.out (fun hHeld => ?_)
  try simp only [Act.put, List.setIfInBounds_toArray, List.set_cons_zero, List.set_cons_succ]
  refine wpAnyH_take (i := 9) (v := ?_) (by rw [List.getElem?_toArray]; rfl) (by kernel_rfl) (by kernel_rfl) (by kernel_rfl) (by exact fun _ _ _ h => h) (Or.inl ⟨by rfl, ?_⟩) (by assumption) ?_
  rotate_left
  · intro w' hSw
    go_simp
    try with_reducible rfl
  try simp only [Act.put, List.setIfInBounds_toArray, List.set_cons_zero, List.set_cons_succ]
  refine wpAnyH_take (i := 10) (v := ?_) (by rw [List.getElem?_toArray]; rfl) (by kernel_rfl) (by kernel_rfl) (by kernel_rfl) (by exact fun _ _ _ h => h) (Or.inl ⟨by rfl, ?_⟩) (by assumption) ?_
  rotate_left
  · intro w' hSw
    go_simp
    try with_reducible rfl
  try simp only [Act.put, List.setIfInBounds_toArray, List.set_cons_zero, List.set_cons_succ]
  refine wpAnyH_take (i := 11) (v := ?_) (by rw [List.getElem?_toArray]; rfl) (by kernel_rfl) (by kernel_rfl) (by kernel_rfl) (by exact fun _ _ _ h => h) (Or.inl ⟨by rfl, ?_⟩) (by assumption) ?_
  rotate_left
  · intro w' hSw
    go_simp
    try with_reducible rfl
  try simp only [Act.put, List.setIfInBounds_toArray, List.set_cons_zero, List.set_cons_succ]
  refine wpAnyH_take (i := 12) (v := ?_) (by rw [List.getElem?_toArray]; rfl) (by kernel_rfl) (by kernel_rfl) (by kernel_rfl) (by exact fun _ _ _ h => h) (Or.inl ⟨by rfl, ?_⟩) (by assumption) ?_
  rotate_left
  · intro w' hSw
    go_simp
    try with_reducible rfl
  try simp only [Act.put, List.setIfInBounds_toArray, List.set_cons_zero, List.set_cons_succ]
  refine wpAnyH_done (by kernel_rfl) ?_ _
  clear hHeld
  go_wp2
  go_ret2
  exact ⟨⟨T, HT.out, rfl⟩, HB5.out⟩
end
end Go.Proofs.Ytamkepfhlfeiiaa.Sto
