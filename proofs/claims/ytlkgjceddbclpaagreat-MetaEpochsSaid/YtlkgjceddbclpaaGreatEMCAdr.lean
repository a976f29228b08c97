/-
  MCAdr. By an AI agent.
-/
import Derived.Test.YtlkgjceddbclpaaGreatEZ
import Derived.Laws.AppendOwnNone
import Derived.Test.YtlkgjceddbclpaaGreatEMCPureB
import Derived.Test.YtlkgjceddbclpaaGreatEMCIdx
import Derived.Test.YtlkgjceddbclpaaGreatEMKnown
namespace Go.Proofs.YtlkgjceddbclpaaGreat.Mta
open Go.RowKit Wire Term Rig

set_option linter.unusedSimpArgs false
set_option linter.unusedVariables false
def Own1 (B : Nat) (w : World) (A : Option Addr) : Prop := ∀ b off, A = some ⟨b, off, none⟩ → B ≤ b ∧ b < w.heap.size ∧ ∀ j, w.frozen? ⟨b, j, none⟩ = false
theorem own1_nil (B : Nat) (w : World) : Own1 B w none := fun _ _ h => by cases h
theorem own1_of {w : World} {base : Nat} {t : TypeId} {k n c : Nat} {A : Option Addr} {xs : List Value} (h : w.ownsRow base t k (.slice A n c) n xs) : Own1 base w A := fun b off e => by
  rcases h.2 with ⟨hv, _⟩ | ⟨g, cap, cur, hv, hb, hg, _⟩
  · injection hv with e1 _ _
    rw [e1] at e; cases e
  · injection hv with e1 _ _
    rw [e] at e1
    injection e1 with e1
    injection e1 with e2 _ _
    subst e2
    exact ⟨hb, (Array.getElem?_eq_some_iff.1 hg).1, fun j => by unfold World.frozen?; rw [hg]; simp⟩
theorem Own1.below {B : Nat} {w w' : World} {A : Option Addr} (h : Own1 B w A) (hb : Below w.heap.size w w') : Own1 B w' A := fun b off e => by
  obtain ⟨h1, h2, h3⟩ := h b off e
  exact ⟨h1, Nat.lt_of_lt_of_le h2 hb.size, fun j => (hb.frozen (p := ⟨b, j, none⟩) h2).trans (h3 j)⟩
def Pe (B : Nat) (x : List (Tm × Tm) × Int) (e : Ending) (w' : World) : Prop := ∃ (A : Option Addr) (c : Nat) (ks : List (ByteArray × ByteArray)), pl ks = x.1 ∧ (ks.length ≤ c ∧ (A = none → c = 0)) ∧ PReads w' A ks ∧ Own1 B w' A ∧ e = .returned (.tuple #[.slice A ks.length c, .int .i64 x.2])
theorem pe_nil (B : Nat) (f : Int) (w' : World) : Pe B ([], f) (.returned (.tuple #[.slice none 0 0, .int .i64 f])) w' := ⟨none, 0, [], rfl, ⟨Nat.le_refl _, fun _ => rfl⟩, PReads.nil _ _, own1_nil _ _, rfl⟩
theorem drop_at {ys : List ByteArray} {k : Nat} {y : ByteArray} (hk : k < ys.length) (hy : ys.getD k ByteArray.empty = y) : (bl ys).drop k = y.data.toList :: (bl ys).drop (k + 1) := by
  have h : (bl ys)[k]? = some y.data.toList := by
    unfold bl
    rw [List.getElem?_map, List.getElem?_eq_getElem hk, ← hy]
    simp [List.getD, hk]
  obtain ⟨h1, h2⟩ := List.getElem?_eq_some_iff.1 h
  rw [List.drop_eq_getElem_cons h1, h2]
set_option maxHeartbeats 8000000 in
set_option maxRecDepth 1000000 in
theorem addressees_any (U : Option Addr) (cu : Nat) (us : List ByteArray) (K : Option Addr) (ck : Nat) (ks : List (ByteArray × ByteArray)) (w : World) (hU : SReads w U us) (hul : us.length ≤ 1000) (hK : PReads w K ks) (hkl : ks.length ≤ 1000) (hz : ∀ y ∈ ks, y.2.size ≤ 140737488355328) :
    Calls Tryz.prog 53 #[.slice U us.length cu, .slice K ks.length ck] w fun e w' => Pe w.heap.size (adr (pl ks) (bl us)) e w' ∧ Below w.heap.size w w' := by
  obtain ⟨i0, hi0, hz0, hz1, hz2⟩ := info_parts known_info
  have HU := zh hU
  have HK := zh hK
  have HZ := zh hz
  clear hU hK hz
  go_enter Tryz.func53, Tryz.ntmps53
  go_wp2_with fail
  go_loopw [6, 12] (fun v i wr => ∃ (k : Nat) (V : Value), k ≤ us.length ∧ i = .int .i64 (k : Int) ∧ V = v ∧ Hid (∃ acc, adr (pl ks) (bl us) = cont acc (adr (pl ks) ((bl us).drop k)) ∧ acc.length = k ∧ OwnsP 36 w acc V wr)) (fun _ i _ => us.length - (intOf i).toNat)
  case atStart => exact ⟨0, _, Nat.zero_le _, rfl, rfl, zh ⟨[], (cont_nil _ (adr_nil _ _)).symm, rfl, ownsP_nil _ w (Below.refl _ _)⟩⟩
  case round =>
    obtain ⟨k, v, hk, rfl, rfl, HO⟩ := hrel
    obtain ⟨acc, hadr, hal, zs, hz, hown, hbel⟩ := HO.out
    have HAD := zh hadr
    have HOW := zh hown
    have HBL := zh hbel
    have HZS := zh hz
    have hzl : zs.length = k := by rw [← hal, ← hz, pl_len]
    clear hadr hal hown hbel hz
    by_cases hlt : (k : Int) < (us.length : Int)
    · obtain ⟨b, off, rfl, hbl, hcl⟩ := (HU.out.below HBL.out zl) k (by omega)
      obtain ⟨y, hy⟩ : ∃ y, us.getD k ByteArray.empty = y := ⟨_, rfl⟩
      rw [hy] at hcl
      have HDR := zh (drop_at (by omega) hy)
      clear hy hbl
      have hcy : (wr.alloc (.cells #[.string y] 9)).cell? ⟨wr.heap.size, 0, none⟩ = some (.string y) := cell_of_row _ _ _ _ _ (0, 0) (heap_alloc_new wr _)
      have hba : Below w.heap.size w (wr.alloc (.cells #[.string y] 9)) := HBL.out.alloc HBL.out.size _
      have hsa : (wr.alloc (.cells #[.string y] 9)).heap.size = wr.heap.size + 1 := by simp
      have HIX := zh (indexK_any 108 (fun _ _ => rfl) ⟨wr.heap.size, 0, none⟩ y.data.toList K ck ks (wr.alloc (.cells #[.string y] 9)) (HK.out.below hba zl) (by omega) fun a b W hb => closK_any a b y ⟨wr.heap.size, 0, none⟩ W (by have := hb.size; simp only; omega) ((hb.cell (p := ⟨wr.heap.size, 0, none⟩) (by simp only; omega)).trans hcy))
      have HBA := zh hba
      have HOA := zh (HOW.out.alloc (.cells #[.string y] 9))
      clear hcy hsa hba
      go_wp2_with fail
      with_reducible refine HIX.out.mono ?_
      rintro e w2 ⟨⟨i, hi, rfl⟩, hb2⟩
      have HB2 := zh (Bel.call HBA.out hb2)
      have HO2 := zh (own_below HOA.out hb2 zl)
      clear hb2 HIX HBA HOA hcl
      rcases hi with ⟨rfl, hf⟩ | ⟨j, rfl, hj, hf⟩
      · have HR : Hid (adr (pl ks) (bl us) = ([], 4)) := zh (by rw [HAD.out, HDR.out, adr, hf]; exact cont_err _ (by simp))
        clear hf
        dsimp only
        go_wp2
        go_ret2
        rw [HR.out]
        exact ⟨pe_nil _ _ _, HB2.out⟩
      · obtain ⟨⟨u, x⟩, hux⟩ : ∃ q, ks.getD j default = q := ⟨_, rfl⟩
        rw [hux] at hf
        obtain ⟨b3, off3, rfl, hbl3, hc3, hc4⟩ := (HK.out.below HB2.out zl) j hj
        rw [hux] at hc3 hc4
        simp only at hc3 hc4 hf
        have hxz : x.size ≤ 140737488355328 := HZ.out (u, x) (by rw [← hux]; simp [List.getD, hj])
        have HIP := zh fun w => isPublic_any x w hxz
        have HF := zh hf
        have hj0 : (0 : Int) ≤ (j : Int) := by omega
        have hjl : (j : Int) < (ks.length : Int) := by omega
        have hjn : ¬ (j : Int) < 0 := by omega
        have hjb : decide ((j : Int) < 0) = false := decide_eq_false hjn
        clear hux hxz hf
        dsimp only
        go_wp2_with fail
        by_cases hk117 : kind x.data.toList = 117
        · rw [decide_eq_true hk117] at HIP
          have HST : Hid (adr (pl ks) (bl us) = cont (acc ++ [(u.data.toList, x.data.toList)]) (adr (pl ks) ((bl us).drop (k + 1)))) := zh (by
            rw [HAD.out, HDR.out, adr, HF.out]
            simp only
            rw [if_neg (by simpa using hk117)]
            exact cont_cons _ _ _)
          with_reducible refine (HIP.out _).mono ?_
          rintro e w3 ⟨rfl, hb3⟩
          have hc5 := (hb3.cell (p := ⟨b3, off3 + j * 2, none⟩) hbl3).trans hc3
          have hc6 := (hb3.cell (p := ⟨b3, off3 + j * 2 + 1, none⟩) hbl3).trans hc4
          have HB3 := zh (Bel.call HB2.out hb3)
          have HO3 := zh (own_below HO2.out hb3 zl)
          clear hb3 hc3 hc4 hbl3 HB2 HO2 HIP
          dsimp only
          go_wp2_with (at_builtin
                       refine wpList_append_own _ rfl _ _ _ rfl w.heap.size 36 i0 _ 2 32 Tryz.underlying33 hi0 hz0 hz1 hz2 rfl (by decide) _ zs.length (pcs zs) rfl ?c1 _ 1 1 [.string u, .string x] rfl rfl ?c2 ?c3 ?c4 ?c5 ?c6 ?_
                       case c1 => exact HO3.out.alloc _
                       case c2 => exact lit_cells _ _ _
                       case c3 => exact pcs_one [(u, x)]
                       case c4 => simp only [maxLen]; omega
                       case c5 => omega
                       case c6 =>
                         have h := HB3.out.size
                         simp only [World.alloc, Array.size_push]
                         omega
                       intro v6 w6 hown6 hgrow _
                       have HO6 := zh hown6
                       have HG6 := zh hgrow
                       clear hown6 hgrow)
          have HB6 : Hid (Below w.heap.size w w6) := by
            have h1 := HB3.out
            refine zh ((h1.alloc h1.size (.cells #[.string u, .string x] 36)).grown HG6.out (by
              have := h1.size
              simp only [World.alloc, Array.size_push]
              omega) fun g hg => ?_)
            exact (HO3.out.lt g hg).1
          go_roundw
          case rel =>
            refine ⟨k + 1, _, by omega, by go_num, rfl, zh ⟨acc ++ [(u.data.toList, x.data.toList)], HST.out, by rw [List.length_append, ← HZS.out, pl_len, hzl]; rfl, zs ++ [(u, x)], ?_, ?_, HB6.out⟩⟩
            · rw [← HZS.out]; simp [pl]
            · rw [pcs_app, List.length_append]; exact HO6.out
          case measure => show us.length - ((k : Int) + 1).toNat < us.length - (k : Int).toNat; omega
        · rw [decide_eq_false hk117] at HIP
          have HR : Hid (adr (pl ks) (bl us) = ([], 1)) := zh (by rw [HAD.out, HDR.out, adr, HF.out]; simp only; rw [if_pos hk117]; exact cont_err _ (by simp))
          with_reducible refine (HIP.out _).mono ?_
          rintro e w3 ⟨rfl, hb3⟩
          have HB3 := zh (Bel.call HB2.out hb3)
          clear hb3
          dsimp only
          go_wp2
          go_ret2
          rw [HR.out]
          exact ⟨pe_nil _ _ _, HB3.out⟩
    · have hke : k = us.length := by omega
      have HR : Hid (adr (pl ks) (bl us) = (acc, 0)) := zh (by
        rw [HAD.out, hke, List.drop_of_length_le (by rw [bl_len]; exact Nat.le_refl _), adr]
        unfold cont
        simp)
      have HF : Hid (Plst w.heap.size acc (.returned v) wr) := zh (ownsP_lst ⟨zs, HZS.out, HOW.out, HBL.out⟩)
      obtain ⟨A5, c5, k5, hk5, hn5, hr5, hf5, he5⟩ := HF.out
      obtain rfl : v = .slice A5 k5.length c5 := by injection he5
      have HFF : Hid (Pe w.heap.size (acc, 0) (.returned (.tuple #[.slice A5 k5.length c5, .int .i64 0])) wr) := zh ⟨A5, c5, k5, hk5, hn5, hr5, own1_of (by have h := HOW.out; rw [show zs.length = k5.length by have := congrArg List.length (hk5.trans HZS.out.symm); rw [pl_len, pl_len] at this; exact this.symm] at h; exact h), rfl⟩
      clear hk5 hn5 hr5 hf5 he5
      go_wp2
      go_ret2
      rw [HR.out]
      exact ⟨HFF.out, HBL.out⟩
end Go.Proofs.YtlkgjceddbclpaaGreat.Mta

