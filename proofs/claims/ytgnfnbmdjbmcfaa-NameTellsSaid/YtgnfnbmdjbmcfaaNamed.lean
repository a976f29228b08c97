/-
  CONTRACTS of the statements' own pick and named at this program: what named makes is a name. By an AI agent; no person has read it.
-/
import Derived.Test.YtgnfnbmdjbmcfaaMake
import Derived.OpenShut
import Derived.StillTailTactics
import Derived.Laws.Rows
import Derived.OwnWalk
import Derived.IntWalk
import Derived.Deep.RegionHeld3
import Derived.Deep.AppendLies
import Derived.Deep.DeepFit
import Derived.Deep.DeepMust
import Derived.WalkSpells
import Derived.StillTactics
import Derived.Laws.Pointers
namespace Go.Proofs.Ytgnfnbmdjbmcfaa
open Go.RowKit Txt

theorem ret_int {k : IntKind} {a b : Int} (h : a = b) : Ending.returned (.int k a) = .returned (.int k b) := by rw [h]
def pk (c n : Int) : Int := (if c < 0 then -(c + 1) else c) % n
theorem pk_bd (c : Int) {n : Int} (h : 0 < n) : 0 ≤ pk c n ∧ pk c n < n := ⟨Int.emod_nonneg _ (by omega), Int.emod_lt_of_pos _ h⟩

set_option maxHeartbeats 1000000 in
theorem pick_any (c n : Int) (w : World) (h0 : -9223372036854775808 ≤ c) (h1 : c ≤ 9223372036854775807) (hn : 0 < n) (hn2 : n ≤ 1000000) :
    Calls Try.prog 29 #[.int .i64 c, .int .i64 n] w fun e w' => e = .returned (.int .i64 (pk c n)) ∧ w' = w := by
  have hd : ¬ n = 0 := by omega
  by_cases hc : c < 0
  · go_enter Try.func29, Try.ntmps29
    go_wp2
    go_ret
    refine ⟨ret_int ?_, rfl⟩
    rw [pk, if_pos hc, ← Int.tmod_eq_emod_of_nonneg (by omega), Int.neg_tmod]
  · have hc' : 0 ≤ c := by omega
    go_enter Try.func29, Try.ntmps29
    go_wp2
    go_ret
    exact ⟨ret_int (by rw [pk, if_neg (by omega)]), rfl⟩

def fr (k : Nat) : Int := [97, 48, 223, 248, 945, 1072, 45].getD k 0
def mn (k : Nat) : Int := [26, 10, 24, 8, 25, 32, 1].getD k 0

theorem own_ne {w : World} {base : Nat} {e : TypeId} {size : Nat} {v : Value} {n : Nat} {xs : List Value} (h : w.ownsRow base e size v n xs) {c : Nat} (hc : c < base) : v.ownBlock ≠ some c := fun he => by
  have := (h.lt c he).1
  omega
/-- What an own row of integers reads as. -/
theorem own_reads {k : IntKind} {w : World} {base : Nat} {e : TypeId} {v : Value} {n : Nat} {zs : List Int} (h : w.ownsRow base e 1 v n (zs.map (Value.int k))) :
    zs.length = n ∧ ∃ a cap, v = .slice a zs.length cap ∧ zs.length ≤ cap ∧ Reads k w a zs := by
  have hl : zs.length = n := by have := h.1; simpa using this
  refine ⟨hl, ?_⟩
  rcases h.2 with ⟨rfl, rfl⟩ | ⟨g, cap, cur, rfl, _, hgg, hnc, _, _, _⟩
  · exact ⟨none, 0, by rw [hl], by omega, fun j hj => by omega⟩
  · refine ⟨some ⟨g, 0, none⟩, cap, by rw [hl], by omega, fun j hj => ⟨g, 0, rfl, (Array.getElem?_eq_some_iff.1 hgg).1, ?_⟩⟩
    have := h.cells (g := g) rfl j (.int k (zs.getD j 0)) (by simp [List.getD, hj])
    rw [show ((⟨g, 0, none⟩ : Addr).add j) = ⟨g, 0 + j, none⟩ from by unfold Addr.add; split <;> simp_all] at this
    exact this
theorem refmake_len (a : Option Addr) (cap : Nat) (zs : List Int) {n : Nat} (w : World) (hl : zs.length = n) (hn : n ≤ 35184372088832) (hr : Reads .i32 w a zs) :
    Calls Try.prog 27 #[.slice a n cap] w fun e w' => Made zs e ∧ Below w.heap.size w w' := by
  subst hl
  exact refmake_any a cap zs w hn hr
theorem tdiv7 {z : Int} (h0 : -9223372036854775808 ≤ z) (h1 : z ≤ 9223372036854775807) : -9223372036854775808 ≤ z.tdiv 7 ∧ z.tdiv 7 ≤ 9223372036854775807 := by
  by_cases h : 0 ≤ z
  · rw [Int.tdiv_eq_ediv_of_nonneg h]; omega
  · have e : z.tdiv 7 = -((-z).tdiv 7) := by rw [Int.neg_tdiv, Int.neg_neg]
    rw [e, Int.tdiv_eq_ediv_of_nonneg (by omega)]; omega
theorem letter_fr {k : Nat} (hk : k < 7) {x : Int} (h0 : 0 ≤ x) (h1 : x < mn k) : letter (fr k + x) = true := by
  unfold letter
  apply decide_eq_true
  match k, hk with
  | 0, _ | 1, _ | 2, _ | 3, _ | 4, _ | 5, _ | 6, _ => simp [fr, mn] at *; omega
theorem mn_bd {k : Nat} (hk : k < 7) : 0 < mn k ∧ mn k ≤ 1000000 := by
  match k, hk with
  | 0, _ | 1, _ | 2, _ | 3, _ | 4, _ | 5, _ | 6, _ => simp [mn]
theorem fr_bd {k : Nat} (hk : k < 7) : 0 ≤ fr k ∧ fr k ≤ 1000000 := by
  match k, hk with
  | 0, _ | 1, _ | 2, _ | 3, _ | 4, _ | 5, _ | 6, _ => simp [fr]
theorem info32 : (Try.prog.info? 21).map (fun i => (i.zero, i.size, i.bytes)) = some (some (.int .i32 0), 1, 4) := by kernel_rfl

def w3 (w : World) : World := ((w.alloc (.cells #[.int .i32 97, .int .i32 48, .int .i32 223, .int .i32 248, .int .i32 945, .int .i32 1072, .int .i32 45] 21)).alloc
  (.cells #[.int .i64 26, .int .i64 10, .int .i64 24, .int .i64 8, .int .i64 25, .int .i64 32, .int .i64 1] 3)).alloc (.cells #[.int .i32 110] 21)
theorem w3_size (w : World) : (w3 w).heap.size = w.heap.size + 3 := by simp [w3]
theorem w3_below (w : World) : Below w.heap.size w (w3 w) := (((Below.refl _ _).alloc (Nat.le_refl _) _).alloc (by simp) _).alloc (by simp; omega) _
theorem w3_fr (w : World) {k : Nat} (hk : k < 7) : (w3 w).cell? ⟨w.heap.size, k, none⟩ = some (.int .i32 (fr k)) := by
  unfold w3
  rw [World.cell?_alloc_past _ _ _ (by simp; omega), World.cell?_alloc_past _ _ _ (by simp), World.cell?_alloc_at _ _ _ _ rfl]
  match k, hk with
  | 0, _ | 1, _ | 2, _ | 3, _ | 4, _ | 5, _ | 6, _ => rfl
theorem w3_mn (w : World) {k : Nat} (hk : k < 7) : (w3 w).cell? ⟨w.heap.size + 1, k, none⟩ = some (.int .i64 (mn k)) := by
  unfold w3
  rw [World.cell?_alloc_past _ _ _ (by simp), World.cell?_alloc_at _ _ _ _ (by simp)]
  match k, hk with
  | 0, _ | 1, _ | 2, _ | 3, _ | 4, _ | 5, _ | 6, _ => rfl
theorem w3_own (w : World) : (w3 w).ownsRow (w.heap.size + 2) 21 1 (.slice (some ⟨w.heap.size + 1 + 1, 0, none⟩) 1 1) 1 [.int .i32 110] := by
  have := World.ownsRow_lit (base := w.heap.size + 2) (e := 21) (size := 1) ((w.alloc (.cells #[.int .i32 97, .int .i32 48, .int .i32 223, .int .i32 248, .int .i32 945, .int .i32 1072, .int .i32 45] 21)).alloc
    (.cells #[.int .i64 26, .int .i64 10, .int .i64 24, .int .i64 8, .int .i64 25, .int .i64 32, .int .i64 1] 3)) #[.int .i32 110] 1 (by simp) (by decide) (by decide)
  simpa [w3] using this

set_option maxHeartbeats 2000000 in
set_option maxRecDepth 1000000 in
theorem named_any (a : Option Addr) (cap : Nat) (zs : List Int) (w : World) (hr : Reads .i64 w a zs) (hwf : ∀ z ∈ zs, (Lit.int .i64 z).wf = true) :
    Calls Try.prog 28 #[.slice a zs.length cap] w fun e w' => ∃ rs : List Int, e = .returned (.string ⟨(enc rs).toArray⟩) ∧ 1 ≤ rs.length ∧ rs.length ≤ 32 ∧ (∀ r ∈ rs, letter r = true) ∧ Below w.heap.size w w' := by
  have HR := Lib.hid hr
  have HW := Lib.hid hwf
  clear hr hwf
  obtain ⟨i0, hi, hz0, hz1, hz2⟩ := info_parts info32
  go_enter Try.func28, Try.ntmps28
  go_wp2
  go_loopw [5, 6] (fun v i wr => ∃ (k : Nat) (rs : List Int), i = .int .i64 k ∧ k ≤ 31 ∧ k ≤ zs.length ∧ rs.length = k + 1 ∧ (∀ r ∈ rs, letter r = true) ∧ wr.ownsRow (w.heap.size + 2) 21 1 v (k + 1) (rs.map (Value.int .i32)) ∧ Below (w.heap.size + 2) (w3 w) wr)
    (fun _ i _ => zs.length - (intOf i).toNat)
  case atStart => exact ⟨0, [110], rfl, by omega, by omega, rfl, by simp [letter], w3_own w, Below.refl _ _⟩
  case round =>
    obtain ⟨k, rs, rfl, hk, hkz, hrs, hlet, hown, hb⟩ := hrel
    have HL := Lib.hid hlet
    have HO := Lib.hid hown
    have HRS := Lib.hid hrs
    clear hlet hown hrs
    have hsz := hb.size
    rw [w3_size] at hsz
    by_cases hlt : k < zs.length
    · by_cases h31 : k < 31
      · obtain ⟨b, off, rfl, hblt, hcell0⟩ := HR.out k hlt
        obtain ⟨z, hz⟩ : ∃ z, zs.getD k 0 = z := ⟨_, rfl⟩
        have hzm : z ∈ zs := by
          rw [← hz]; simp only [List.getD, List.getElem?_eq_getElem hlt, Option.getD_some]; exact List.getElem_mem hlt
        have hzb := Go.bounds_i64 (HW.out z hzm)
        have hbw : Below w.heap.size w wr := (w3_below w).trans (hb.mono (by omega))
        have hcell : wr.cell? ⟨b, off + k, none⟩ = some (.int .i64 z) := by rw [hbw.cell (p := ⟨b, off + k, none⟩) hblt, hcell0, hz]
        clear hcell0 hz hzm
        obtain ⟨z0, z1⟩ := hzb
        have hq : -9223372036854775808 ≤ z.tdiv 7 ∧ z.tdiv 7 ≤ 9223372036854775807 := tdiv7 z0 z1
        obtain ⟨hq0, hq1⟩ := hq
        have ag := own_ne HO.out (c := b) (by omega)
        have ak := own_ne HO.out (c := w.heap.size) (by omega)
        have av := own_ne HO.out (c := w.heap.size + 1) (by omega)
        have hd7 : ¬ (7 : Int) = 0 := by omega
        obtain ⟨kk, hkk⟩ : ∃ kk : Nat, pk z 7 = kk := ⟨(pk z 7).toNat, by have := pk_bd z (n := 7) (by omega); omega⟩
        have hk7 : kk < 7 := by have := pk_bd z (n := 7) (by omega); omega
        have hF : wr.cell? ⟨w.heap.size, kk, none⟩ = some (.int .i32 (fr kk)) := by rw [hb.cell (p := ⟨w.heap.size, kk, none⟩) (by simp)]; exact w3_fr w hk7
        have hM : wr.cell? ⟨w.heap.size + 1, kk, none⟩ = some (.int .i64 (mn kk)) := by rw [hb.cell (p := ⟨w.heap.size + 1, kk, none⟩) (by simp)]; exact w3_mn w hk7
        have hmb := mn_bd hk7
        have hfb := fr_bd hk7
        obtain ⟨x, hx⟩ : ∃ x, pk (z.tdiv 7) (mn kk) = x := ⟨_, rfl⟩
        have hxb := pk_bd (z.tdiv 7) hmb.1
        rw [hx] at hxb
        have HLT := Lib.hid (letter_fr hk7 hxb.1 hxb.2)
        obtain ⟨f, hf⟩ : ∃ f, fr kk = f := ⟨_, rfl⟩
        obtain ⟨m, hm⟩ : ∃ m, mn kk = m := ⟨_, rfl⟩
        rw [hf] at hF hfb HLT
        rw [hm] at hM hmb hxb hx
        have HX := Lib.hid hx
        have HK := Lib.hid hkk
        clear hf hm hx hkk
        obtain ⟨f0, f1⟩ := hfb
        obtain ⟨m0, m1⟩ := hmb
        obtain ⟨x0, x1⟩ := hxb
        go_wp2_with (go_at_call 29; refine (pick_any z 7 _ (by omega) (by omega) (by omega) (by omega)).mono ?_; rintro e w' ⟨rfl, rfl⟩; rw [HK.out])
        have kb0 : (0 : Int) ≤ ↑kk := by omega
        have kb1 : (↑kk : Int) < 7 := by omega
        have kb2 : (0 : Int) ≤ ↑k := by omega
        have kb3 : (↑k : Int) < ↑zs.length := by omega
        have hwx0 : IntKind.i32.wrap x = x := IntWalk.i32_in _ (by omega)
        have hwx : IntKind.i32.wrap (f + x) = f + x := IntWalk.i32_in _ (by omega)
        have hwz : IntKind.i64.wrap (z.tdiv 7) = z.tdiv 7 := IntWalk.i64_in _ ⟨hq0, hq1⟩
        clear HR HW
        go_region_held3 (fun w' => w'.cell? ⟨b, off + k, none⟩ = some (.int .i64 z) ∧ w'.cell? ⟨w.heap.size, kk, none⟩ = some (.int .i32 f) ∧ w'.cell? ⟨w.heap.size + 1, kk, none⟩ = some (.int .i64 m))
          (first
            | go_keep
            | (go_split_ands
               refine ⟨?_, ?_, ?_⟩
               · (rw [hgrow.cell_far _ (by simp; omega) (Ne.symm ag)]; assumption)
               · (rw [hgrow.cell_far _ (by simp; omega) (Ne.symm ak)]; assumption)
               · (rw [hgrow.cell_far _ (by simp; omega) (Ne.symm av)]; assumption)))
          (first
            | (go_simp; go_at_call 29; refine (pick_any (z.tdiv 7) m _ hq0 hq1 (by omega) (by omega)).mono ?_; rintro e w2 ⟨rfl, rfl⟩; rw [HX.out]; dsimp only)
            | (go_must (refine step_append_lies _ (by rfl) _ _ _ (by rfl) (w.heap.size + 2) 21 i0 _ 1 4 Try.underlying23 hi hz0 hz1 hz2 rfl (by omega) _ (k + 1) (rs.map (Value.int .i32)) (by rfl) ((HO.out.alloc _).drew) ⟨w'.heap.size, 0, none⟩ 1 1 [.int .i32 (f + x)] (by rfl) (by rfl) (World.news_of_block (cs := #[.int .i32 (f + x)]) (t := 21) (fr := (0, 0)) (heap_alloc_new w' _)) (by simp [Value.oneCell']) (by omega) (by unfold maxLen; omega) (by omega) (by simp; omega) (w'.heap.size + 1) (by simp) ?_); intro gg cap2 w1 hown1 hgrow hat hlt1))
        have hb1 : Below (w.heap.size + 2) (w3 w) w1 := Below.grown ((hb.alloc (by omega) _).drew) hgrow (by simp; omega) (fun c hc => (HO.out.lt c hc).1)
        have HO1 := Lib.hid hown1
        clear hwx hwx0 hwz hgrow hat hown1
        go_wp2
        go_roundw
        case rel =>
          refine ⟨k + 1, rs ++ [f + x], by go_num, by omega, by omega, by rw [List.length_append, HRS.out]; rfl, fun r hr => ?_, ?_, hb1⟩
          · rcases List.mem_append.1 hr with h | h
            · exact HL.out r h
            · rw [List.mem_singleton.1 h]; exact HLT.out
          · rw [List.map_append]; exact HO1.out
        case measure => simp [intOf]; omega
      · obtain rfl : k = 31 := by omega
        obtain ⟨_, a2, cap2, rfl, _, hr2⟩ := own_reads HO.out
        (clear HO HR HW)
        go_wp2_with fail
        refine (refmake_len a2 cap2 rs _ HRS.out (by omega) hr2).mono ?_
        rintro e w2 ⟨⟨hv, rfl⟩ | ⟨hv, rfl⟩, b2⟩
        · exfalso
          rw [List.all_eq_true.2 fun r hr => letter_valid (HL.out r hr)] at hv
          cases hv
        · clear hv
          go_wp2_with fail
          go_ret
          exact ⟨rs, rfl, by rw [HRS.out]; omega, by rw [HRS.out]; omega, HL.out, ((w3_below w).trans (hb.mono (by omega))).trans (b2.mono (by omega))⟩
    · obtain rfl : k = zs.length := by omega
      obtain ⟨_, a2, cap2, rfl, _, hr2⟩ := own_reads HO.out
      (clear HO HR HW)
      go_wp2_with fail
      refine (refmake_len a2 cap2 rs _ HRS.out (by omega) hr2).mono ?_
      rintro e w2 ⟨⟨hv, rfl⟩ | ⟨hv, rfl⟩, b2⟩
      · exfalso
        rw [List.all_eq_true.2 fun r hr => letter_valid (HL.out r hr)] at hv
        cases hv
      · clear hv
        go_wp2_with fail
        go_ret
        exact ⟨rs, rfl, by rw [HRS.out]; omega, by rw [HRS.out]; omega, HL.out, ((w3_below w).trans (hb.mono (by omega))).trans (b2.mono (by omega))⟩
/-- What named makes is a name. -/
theorem named_call (a : Option Addr) (cap : Nat) (zs : List Int) (w : World) (hr : Reads .i64 w a zs) (hwf : ∀ z ∈ zs, (Lit.int .i64 z).wf = true) :
    Calls Try.prog 28 #[.slice a zs.length cap] w fun e w' => ∃ X : ByteArray, e = .returned (.string X) ∧ right X.data.toList = true ∧ X.size ≤ 128 ∧ Below w.heap.size w w' := by
  refine (named_any a cap zs w hr hwf).mono ?_
  rintro e w' ⟨rs, rfl, h1, h2, h3, hb⟩
  have := right_of h1 h2 h3
  exact ⟨_, rfl, this, by rw [Lib.size_eq]; exact (right_len this).2, hb⟩
end Go.Proofs.Ytgnfnbmdjbmcfaa
