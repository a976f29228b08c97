/-
  E5. By an AI agent.
-/
import Derived.Test.YtbdealddjonobaaGreatYZ
import Derived.Test.YtbdealddjonobaaGreatYMCPureB
import Derived.Test.YtbdealddjonobaaGreatYE1
import Derived.Test.YtbdealddjonobaaGreatYT2
import Derived.Test.YtbdealddjonobaaGreatYC1
import Derived.Test.YtbdealddjonobaaGreatYD1
import Derived.Test.YtbdealddjonobaaGreatYB2
import Derived.Test.YtbdealddjonobaaGreatYR1
namespace Go.Proofs.YtbdealddjonobaaGreat.Mta
open Go.RowKit Wire Term Rig

set_option linter.unusedSimpArgs false
set_option linter.unusedVariables false
def Own1 (B : Nat) (w : World) (A : Option Addr) : Prop := ∀ b off, A = some ⟨b, off, none⟩ → B ≤ b ∧ b < w.heap.size ∧ ∀ j, w.frozen? ⟨b, j, none⟩ = false
theorem own1_nil (B : Nat) (w : World) : Own1 B w none := fun _ _ h => by cases h
theorem own1_of {w : World} {base : Nat} {t : TypeId} {k n c : Nat} {A : Option Addr} {xs : List Value} (h : w.ownsRow base t k (.slice A n c) n xs) : Own1 base w A := fun b off e => by
 rcases h.2 with ⟨hv, _⟩ | ⟨g, cap, cur, hv, hb, hg, _⟩
 ·
  injection hv with e1 _ _
  rw [e1] at e; cases e
 ·
  injection hv with e1 _ _
  rw [e] at e1
  injection e1 with e1
  injection e1 with e2 _ _
  subst e2
  exact ⟨hb, (Array.getElem?_eq_some_iff.1 hg).1, fun j => by unfold World.frozen?; rw [hg]; simp⟩
theorem Own1.below {B : Nat} {w w' : World} {A : Option Addr} (h : Own1 B w A) (hb : Below w.heap.size w w') : Own1 B w' A := fun b off e => by
 obtain ⟨h1, h2, h3⟩ := h b off e
 exact ⟨h1, Nat.lt_of_lt_of_le h2 hb.size, fun j => (hb.frozen (p := ⟨b, j, none⟩) h2).trans (h3 j)⟩
def Pe (B : Nat) (x : List (Tm × Tm) × Int) (e : Ending) (w' : World) : Prop := ∃ (A : Option Addr) (c : Nat) (ks : List (ByteArray × ByteArray)), pl ks = x.1 ∧ (ks.length ≤ c ∧ (A = none → c = 0)) ∧ PReads w' A ks ∧ Own1 B w' A ∧ e = .returned (.tuple #[.slice A ks.length c, .int .i64 x.2])
theorem pe_nil (B : Nat) (f : Int) (w' : World) : Pe B ([], f) (.returned (.tuple #[.slice none 0 0, .int .i64 f])) w' := ⟨none, 0, [], rfl, ⟨Nat.le_refl _, fun _ => rfl⟩, PReads.nil _ _, own1_nil _ _, rfl⟩
theorem drop_at {ys : List ByteArray} {k : Nat} {y : ByteArray} (hk : k < ys.length) (hy : ys.getD k ByteArray.empty = y) : (bl ys).drop k = y.data.toList :: (bl ys).drop (k + 1) := by
 have h : (bl ys)[k]? = some y.data.toList := by
  unfold bl
  rw [List.getElem?_map, List.getElem?_eq_getElem hk, ← hy]
  simp [List.getD, hk]
 obtain ⟨h1, h2⟩ := List.getElem?_eq_some_iff.1 h
 rw [List.drop_eq_getElem_cons h1, h2]
set_option maxHeartbeats 8000000 in
set_option maxRecDepth 1000000 in
theorem addressees_any (U : Option Addr) (cu : Nat) (us : List ByteArray) (K : Option Addr) (ck : Nat) (ks : List (ByteArray × ByteArray)) (w : World) (hU : SReads w U us) (hul : us.length ≤ 1000) (hK : PReads w K ks) (hkl : ks.length ≤ 1000) (hz : ∀ y ∈ ks, y.2.size ≤ 140737488355328) :
    Calls Tryz.prog 115 #[.slice U us.length cu, .slice K ks.length ck] w fun e w' => Pe w.heap.size (adr (pl ks) (bl us)) e w' ∧ Below w.heap.size w w' := by
  obtain ⟨i0, hi0, hz0, hz1, hz2⟩ := info_parts known_info
  have HU := zh hU
  have HK := zh hK
  have HZ := zh hz
  clear hU hK hz
  go_enter Tryz.func115, Tryz.ntmps115
  go_wp2_with fail
  go_loopw [6, 12] (fun v i wr => ∃ (k : Nat) (V : Value), k ≤ us.length ∧ i = .int .i64 (k : Int) ∧ V = v ∧ Hid (∃ acc, adr (pl ks) (bl us) = cont acc (adr (pl ks) ((bl us).drop k)) ∧ acc.length = k ∧ OwnsP 115 w acc V wr)) (fun _ i _ => us.length - (intOf i).toNat)
  case atStart => exact ⟨0, _, Nat.zero_le _, rfl, rfl, zh ⟨[], (cont_nil _ (adr_nil _ _)).symm, rfl, ownsP_nil _ w (Below.refl _ _)⟩⟩
  case round =>
    obtain ⟨k, v, hk, rfl, rfl, HO⟩ := hrel
    obtain ⟨acc, hadr, hal, zs, hz, hown, hbel⟩ := HO.out
    have HAD := zh hadr
    have HOW := zh hown
    have HBL := zh hbel
    have HZS := zh hz
    have hzl : zs.length = k := by rw [← hal, ← hz, pl_len]
    clear hadr hal hown hbel hz
    by_cases hlt : (k : Int) < (us.length : Int)
    · obtain ⟨b, off, rfl, hbl, hcl⟩ := (HU.out.below HBL.out zl) k (by omega)
      obtain ⟨y, hy⟩ : ∃ y, us.getD k ByteArray.empty = y := ⟨_, rfl⟩
      rw [hy] at hcl
      have HDR := zh (drop_at (by omega) hy)
      clear hy hbl
      have hcy : (wr.alloc (.cells #[.string y] 9)).cell? ⟨wr.heap.size, 0, none⟩ = some (.string y) := cell_of_row _ _ _ _ _ (0, 0) (heap_alloc_new wr _)
      have hba : Below w.heap.size w (wr.alloc (.cells #[.string y] 9)) := HBL.out.alloc HBL.out.size _
      have hsa : (wr.alloc (.cells #[.string y] 9)).heap.size = wr.heap.size + 1 := by simp
      have HIX := zh (indexK_any 164 (fun _ _ => rfl) ⟨wr.heap.size, 0, none⟩ y.data.toList K ck ks (wr.alloc (.cells #[.string y] 9)) (HK.out.below hba zl) (by omega) fun a b W hb => closK_any a b y ⟨wr.heap.size, 0, none⟩ W (by have := hb.size; simp only; omega) ((hb.cell (p := ⟨wr.heap.size, 0, none⟩) (by simp only; omega)).trans hcy))
      have HBA := zh hba
      have HOA := zh (HOW.out.alloc (.cells #[.string y] 9))
      clear hcy hsa hba
      go_wp2_with fail
      with_reducible refine HIX.out.mono ?_
      rintro e w2 ⟨⟨i, hi, rfl⟩, hb2⟩
      have HB2 := zh (Bel.call HBA.out hb2)
      have HO2 := zh (own_below HOA.out hb2 zl)
      clear hb2 HIX HBA HOA hcl
      rcases hi with ⟨rfl, hf⟩ | ⟨j, rfl, hj, hf⟩
      · have HR : Hid (adr (pl ks) (bl us) = ([], 4)) := zh (by rw [HAD.out, HDR.out, adr, hf]; exact cont_err _ (by simp))
        clear hf
        dsimp only
        go_wp2
        go_ret2
        rw [HR.out]
        exact ⟨pe_nil _ _ _, HB2.out⟩
      · obtain ⟨⟨u, x⟩, hux⟩ : ∃ q, ks.getD j default = q := ⟨_, rfl⟩
        rw [hux] at hf
        obtain ⟨b3, off3, rfl, hbl3, hc3, hc4⟩ := (HK.out.below HB2.out zl) j hj
        rw [hux] at hc3 hc4
        simp only at hc3 hc4 hf
        have hxz : x.size ≤ 140737488355328 := HZ.out (u, x) (by rw [← hux]; simp [List.getD, hj])
        have HIP := zh fun w => isPublic_any x w hxz
        have HF := zh hf
        have hj0 : (0 : Int) ≤ (j : Int) := by omega
        have hjl : (j : Int) < (ks.length : Int) := by omega
        have hjn : ¬ (j : Int) < 0 := by omega
        have hjb : decide ((j : Int) < 0) = false := decide_eq_false hjn
        clear hux hxz hf
        dsimp only
        go_wp2_with fail
        by_cases hk117 : kind x.data.toList = 117
        · rw [decide_eq_true hk117] at HIP
          have HST : Hid (adr (pl ks) (bl us) = cont (acc ++ [(u.data.toList, x.data.toList)]) (adr (pl ks) ((bl us).drop (k + 1)))) := zh (by
            rw [HAD.out, HDR.out, adr, HF.out]
            simp only
            rw [if_neg (by simpa using hk117)]
            exact cont_cons _ _ _)
          with_reducible refine (HIP.out _).mono ?_
          rintro e w3 ⟨rfl, hb3⟩
          have hc5 := (hb3.cell (p := ⟨b3, off3 + j * 2, none⟩) hbl3).trans hc3
          have hc6 := (hb3.cell (p := ⟨b3, off3 + j * 2 + 1, none⟩) hbl3).trans hc4
          have HB3 := zh (Bel.call HB2.out hb3)
          have HO3 := zh (own_below HO2.out hb3 zl)
          clear hb3 hc3 hc4 hbl3 HB2 HO2 HIP
          dsimp only
          go_wp2_with (at_builtin
                       refine wpList_append_own _ rfl _ _ _ rfl w.heap.size 115 i0 _ 2 32 Tryz.underlying63 hi0 hz0 hz1 hz2 rfl (by decide) _ zs.length (pcs zs) rfl ?c1 _ 1 1 [.string u, .string x] rfl rfl ?c2 ?c3 ?c4 ?c5 ?c6 ?_
                       case c1 => exact HO3.out.alloc _
                       case c2 => exact lit_cells _ _ _
                       case c3 => exact pcs_one [(u, x)]
                       case c4 => simp only [maxLen]; omega
                       case c5 => omega
                       case c6 =>
                         have h := HB3.out.size
                         simp only [World.alloc, Array.size_push]
                         omega
                       intro v6 w6 hown6 hgrow _
                       have HO6 := zh hown6
                       have HG6 := zh hgrow
                       clear hown6 hgrow)
          have HB6 : Hid (Below w.heap.size w w6) := by
            have h1 := HB3.out
            refine zh ((h1.alloc h1.size (.cells #[.string u, .string x] 115)).grown HG6.out (by
              have := h1.size
              simp only [World.alloc, Array.size_push]
              omega) fun g hg => ?_)
            exact (HO3.out.lt g hg).1
          go_roundw
          case rel =>
            refine ⟨k + 1, _, by omega, by go_num, rfl, zh ⟨acc ++ [(u.data.toList, x.data.toList)], HST.out, by rw [List.length_append, ← HZS.out, pl_len, hzl]; rfl, zs ++ [(u, x)], ?_, ?_, HB6.out⟩⟩
            · rw [← HZS.out]; simp [pl]
            · rw [pcs_app, List.length_append]; exact HO6.out
          case measure => show us.length - ((k : Int) + 1).toNat < us.length - (k : Int).toNat; omega
        · rw [decide_eq_false hk117] at HIP
          have HR : Hid (adr (pl ks) (bl us) = ([], 1)) := zh (by rw [HAD.out, HDR.out, adr, HF.out]; simp only; rw [if_pos hk117]; exact cont_err _ (by simp))
          with_reducible refine (HIP.out _).mono ?_
          rintro e w3 ⟨rfl, hb3⟩
          have HB3 := zh (Bel.call HB2.out hb3)
          clear hb3
          dsimp only
          go_wp2
          go_ret2
          rw [HR.out]
          exact ⟨pe_nil _ _ _, HB3.out⟩
    · have hke : k = us.length := by omega
      have HR : Hid (adr (pl ks) (bl us) = (acc, 0)) := zh (by
        rw [HAD.out, hke, List.drop_of_length_le (by rw [bl_len]; exact Nat.le_refl _), adr]
        unfold cont
        simp)
      have HF : Hid (Plst w.heap.size acc (.returned v) wr) := zh (ownsP_lst ⟨zs, HZS.out, HOW.out, HBL.out⟩)
      obtain ⟨A5, c5, k5, hk5, hn5, hr5, hf5, he5⟩ := HF.out
      obtain rfl : v = .slice A5 k5.length c5 := by injection he5
      have HFF : Hid (Pe w.heap.size (acc, 0) (.returned (.tuple #[.slice A5 k5.length c5, .int .i64 0])) wr) := zh ⟨A5, c5, k5, hk5, hn5, hr5, own1_of (by have h := HOW.out; rw [show zs.length = k5.length by have := congrArg List.length (hk5.trans HZS.out.symm); rw [pl_len, pl_len] at this; exact this.symm] at h; exact h), rfl⟩
      clear hk5 hn5 hr5 hf5 he5
      go_wp2
      go_ret2
      rw [HR.out]
      exact ⟨HFF.out, HBL.out⟩
end Go.Proofs.YtbdealddjonobaaGreat.Mta

namespace Go.Proofs.YtbdealddjonobaaGreat.Mta
open Go.RowKit Wire Term Rig

set_option linter.unusedSimpArgs false
set_option linter.unusedVariables false
def Le (B : Nat) (x : List Tm × Int) (e : Ending) (w' : World) : Prop := ∃ (A : Option Addr) (c : Nat) (ys : List ByteArray), bl ys = x.1 ∧ (ys.length ≤ c ∧ (A = none → c = 0)) ∧ SReads w' A ys ∧ Own1 B w' A ∧ e = .returned (.tuple #[.slice A ys.length c, .int .i64 x.2])
theorem le_nil (B : Nat) (f : Int) (w' : World) : Le B ([], f) (.returned (.tuple #[.slice none 0 0, .int .i64 f])) w' := ⟨none, 0, [], rfl, ⟨Nat.le_refl _, fun _ => rfl⟩, SReads.nil _ _, own1_nil _ _, rfl⟩
set_option maxHeartbeats 8000000 in
set_option maxRecDepth 1000000 in
theorem publics_any (U : Option Addr) (cu : Nat) (us : List ByteArray) (w : World) (hU : SReads w U us) (hul : us.length ≤ 1000) (hz : ∀ y ∈ us, y.size ≤ 140737488355328) :
    Calls Tryz.prog 118 #[.slice U us.length cu] w fun e w' => Le w.heap.size (vfs (bl us)) e w' ∧ Below w.heap.size w w' := by
  obtain ⟨i0, hi0, hz0, hz1, hz2⟩ := info_parts str_info
  have HU := zh hU
  have HZ := zh hz
  clear hU hz
  go_enter Tryz.func118, Tryz.ntmps118
  go_wp2_with fail
  go_loopw [4, 11] (fun v i wr => ∃ (k : Nat) (V : Value), k ≤ us.length ∧ i = .int .i64 (k : Int) ∧ V = v ∧ Hid (∃ acc, vfs (bl us) = cont acc (vfs ((bl us).drop k)) ∧ acc.length = k ∧ Owns w acc V wr)) (fun _ i _ => us.length - (intOf i).toNat)
  case atStart => exact ⟨0, _, Nat.zero_le _, rfl, rfl, zh ⟨[], (cont_nil _ (vfs_nil _)).symm, rfl, ⟨[], rfl, World.ownsRow_nil _ _ _ _, Below.refl _ _⟩⟩⟩
  case round =>
    obtain ⟨k, v, hk, rfl, rfl, HO⟩ := hrel
    obtain ⟨acc, hadr, hal, zs, hz, hown, hbel⟩ := HO.out
    have HAD := zh hadr
    have HOW := zh hown
    have HBL := zh hbel
    have HZS := zh hz
    have hzl : zs.length = k := by rw [← hal, ← hz, bl_len]
    clear hadr hal hown hbel hz
    by_cases hlt : (k : Int) < (us.length : Int)
    · obtain ⟨b, off, rfl, hbl, hcl⟩ := (HU.out.below HBL.out zl) k (by omega)
      obtain ⟨y, hy⟩ : ∃ y, us.getD k ByteArray.empty = y := ⟨_, rfl⟩
      have hin : y ∈ us := by rw [← hy]; simp [List.getD, show k < us.length by omega]
      rw [hy] at hcl
      have HDR := zh (drop_at (by omega) hy)
      have HPU := zh fun w => t_OfPublic y w (HZ.out y hin)
      obtain ⟨p, e0, hp⟩ : ∃ p e, one 117 y.data.toList = (p, e) := ⟨_, _, rfl⟩
      rw [hp] at HPU
      have HP := zh hp
      clear hy hbl hin hp
      go_wp2_with fail
      with_reducible refine (HPU.out _).mono ?_
      rintro e w2 ⟨⟨T, hT, rfl⟩, hb2⟩
      have HB2 := zh (Bel.call HBL.out hb2)
      have HO2 := zh (own_below HOW.out hb2 zl)
      have HT := zh hT
      clear hb2 hcl HPU hT
      dsimp only
      by_cases he : e0 = 0
      · subst he
        have HST : Hid (vfs (bl us) = cont (acc ++ [T.data.toList]) (vfs ((bl us).drop (k + 1)))) := zh (by
          rw [HAD.out, HDR.out, vfs, HP.out]
          simp only
          rw [if_neg (by simp), HT.out]
          exact cont_cons _ _ _)
        go_wp2_with (at_builtin
                     refine wpList_append_own _ rfl _ _ _ rfl w.heap.size 9 i0 _ 1 16 Tryz.underlying44 hi0 hz0 hz1 hz2 rfl (by decide) _ zs.length (sv zs) rfl ?c1 _ 1 1 [.string T] rfl rfl ?c2 ?c3 ?c4 ?c5 ?c6 ?_
                     case c1 => exact HO2.out.alloc _
                     case c2 => exact lit_cells _ _ _
                     case c3 => exact sv_one [T]
                     case c4 => simp only [maxLen]; omega
                     case c5 => omega
                     case c6 =>
                       have h := HB2.out.size
                       simp only [World.alloc, Array.size_push]
                       omega
                     intro v6 w6 hown6 hgrow _
                     have HO6 := zh hown6
                     have HG6 := zh hgrow
                     clear hown6 hgrow)
        have HB6 : Hid (Below w.heap.size w w6) := by
          have h1 := HB2.out
          refine zh ((h1.alloc h1.size (.cells #[.string T] 9)).grown HG6.out (by
            have := h1.size
            simp only [World.alloc, Array.size_push]
            omega) fun g hg => ?_)
          exact (HO2.out.lt g hg).1
        go_roundw
        case rel =>
          refine ⟨k + 1, _, by omega, by go_num, rfl, zh ⟨acc ++ [T.data.toList], HST.out, by rw [List.length_append, ← HZS.out, bl_len, hzl]; rfl, zs ++ [T], ?_, ?_, HB6.out⟩⟩
          · rw [← HZS.out]; simp [bl]
          · rw [List.length_append]; simpa [sv] using HO6.out
        case measure => show us.length - ((k : Int) + 1).toNat < us.length - (k : Int).toNat; omega
      · have hq : (e0 != 0) = true := by simpa using he
        have HR : Hid (vfs (bl us) = ([], e0)) := zh (by
          rw [HAD.out, HDR.out, vfs, HP.out]; simp only; rw [if_pos he]; exact cont_err _ he)
        go_wp2
        go_ret2
        rw [HR.out]
        exact ⟨le_nil _ _ _, HB2.out⟩
    · have hke : k = us.length := by omega
      have HR : Hid (vfs (bl us) = (acc, 0)) := zh (by
        rw [HAD.out, hke, List.drop_of_length_le (by rw [bl_len]; exact Nat.le_refl _), vfs]
        unfold cont
        simp)
      have HF : Hid (Lst w.heap.size acc (.returned v) wr) := zh (owns_lst ⟨zs, HZS.out, HOW.out, HBL.out⟩)
      obtain ⟨A5, c5, k5, hk5, hn5, hr5, hf5, he5⟩ := HF.out
      obtain rfl : v = .slice A5 k5.length c5 := by injection he5
      have HFF : Hid (Le w.heap.size (acc, 0) (.returned (.tuple #[.slice A5 k5.length c5, .int .i64 0])) wr) := zh ⟨A5, c5, k5, hk5, hn5, hr5, own1_of (by have h := HOW.out; rw [show zs.length = k5.length by have := congrArg List.length (hk5.trans HZS.out.symm); rw [bl_len, bl_len] at this; exact this.symm] at h; exact h), rfl⟩
      clear hk5 hn5 hr5 hf5 he5
      go_wp2
      go_ret2
      rw [HR.out]
      exact ⟨HFF.out, HBL.out⟩
set_option maxHeartbeats 4000000 in
set_option maxRecDepth 1000000 in
theorem boxed_any (p s t : ByteArray) (w : World) (hp : p.size ≤ 140737488355328) (hs : s.size ≤ 140737488355328) (ht : t.size ≤ 140737488355328) :
  Calls Tryz.prog 168 #[.string p, .string s, .string t] w fun e w' => Sr (boxd p.data.toList s.data.toList t.data.toList) e ∧ Below w.heap.size w w' := by
 have HPR := zh fun w => t_OfPair s t w hs ht
 obtain ⟨x, e0, hx⟩ : ∃ x e, two 112 s.data.toList t.data.toList = (x, e) := ⟨_, _, rfl⟩
 rw [hx] at HPR
 have hd : boxd p.data.toList s.data.toList t.data.toList = if e0 ≠ 0 then ([], e0) else box p.data.toList x := by unfold boxd; rw [hx]
 have hl := Draw.two_len 112 s.data.toList t.data.toList
 rw [hx] at hl
 simp only at hl
 by_cases he : e0 = 0
 ·
  subst he
  rw [hd, if_neg (by simp)]
  have HBX : Hid (∀ (X : ByteArray) w, X.data.toList = x → Calls Tryz.prog 192 #[.string p, .string X] w fun e w' => Sr (box p.data.toList x) e ∧ Below w.heap.size w w') := zh fun X w h => by
   rw [← h]; exact t_Box p X w hp (by rw [Lib.size_eq, h]; omega)
  obtain ⟨z, ez, hz⟩ : ∃ z e, box p.data.toList x = (z, e) := ⟨_, _, rfl⟩
  rw [hz] at HBX ⊢
  clear hd hl hx hz
  go_enter Tryz.func168, Tryz.ntmps168
  go_wp2_with fail
  with_reducible refine (HPR.out _).mono ?_
  rintro e w1 ⟨⟨X, hX, rfl⟩, hb1⟩
  have HB1 := zh hb1
  have HX := zh hX
  clear hb1 hX HPR
  dsimp only
  go_wp2_with fail
  with_reducible refine (HBX.out X _ HX.out).mono ?_
  rintro e w2 ⟨⟨Z, hZ, rfl⟩, hb2⟩
  have HB2 := zh (Bel.call HB1.out hb2)
  have HZ := zh hZ
  clear hb2 hZ HBX
  dsimp only
  go_wp2
  go_ret2
  exact ⟨⟨Z, HZ.out, rfl⟩, HB2.out⟩
 ·
  rw [hd, if_pos he]
  have hq : (e0 != 0) = true := by simpa using he
  clear hd hl hx
  go_enter Tryz.func168, Tryz.ntmps168
  go_wp2_with fail
  with_reducible refine (HPR.out _).mono ?_
  rintro e w1 ⟨⟨X, hX, rfl⟩, hb1⟩
  have HB1 := zh hb1
  clear hb1 hX HPR
  dsimp only
  go_wp2
  go_ret2
  exact ⟨⟨⟨#[]⟩, rfl, rfl⟩, HB1.out⟩
end Go.Proofs.YtbdealddjonobaaGreat.Mta

namespace Go.Proofs.YtbdealddjonobaaGreat.Mta
open Go.RowKit Wire Term Rig

set_option linter.unusedSimpArgs false
set_option linter.unusedVariables false
theorem block_info : (Tryz.prog.info? 120).map (fun i => (i.zero, i.size, i.bytes)) = some (some (.agg #[.string ⟨#[]⟩, .string ⟨#[]⟩]), 2, 32) := by kernel_rfl
end Go.Proofs.YtbdealddjonobaaGreat.Mta

namespace Go.Proofs.YtbdealddjonobaaGreat.Mta
open Go.RowKit Wire Term Rig

set_option linter.unusedSimpArgs false
set_option linter.unusedVariables false
theorem ofText_nil : ofText [] = (emptyT, 0) := by
 have hr : right emptyT = true := Reg.sz_right (emptyT_sz 0) (by omega) (by decide)
 unfold ofText
 rw [emptyT_eq]
 exact Draw.made_yes hr
theorem state_len (t : Tm) (ep : Int) (_ : t.length ≤ 10000) : (Reg.state t ep).1.length ≤ 10000 := by
 unfold Reg.state
 split
 ·
  split
  ·
   rcases Reg.backN_cases t (7 - ep).toNat with ⟨h, h2⟩ | ⟨h, h2⟩
   ·
    rw [h2]
    have := (right_len h).2
    simp only
    omega
   · rw [h2]; simp
  · simp
 · simp
def Bk2 (g : Nat) (w : World) (u x : ByteArray) : Prop := g < w.heap.size ∧ w.cell? ⟨g, 0, none⟩ = some (.string u) ∧ w.cell? ⟨g, 1, none⟩ = some (.string x)
theorem Bk2.call {g : Nat} {w w' : World} {u x : ByteArray} (h : Bk2 g w u x) (hb : Below w.heap.size w w') : Bk2 g w' u x := ⟨Nat.lt_of_lt_of_le h.1 hb.size, (hb.cell (p := ⟨g, 0, none⟩) h.1).trans h.2.1, (hb.cell (p := ⟨g, 1, none⟩) h.1).trans h.2.2⟩
theorem drop_pl {ks : List (ByteArray × ByteArray)} {k : Nat} {u x : ByteArray} (hk : k < ks.length) (hy : ks.getD k default = (u, x)) : (pl ks).drop k = (u.data.toList, x.data.toList) :: (pl ks).drop (k + 1) := by
 have h := pl_at hk
 rw [hy] at h
 obtain ⟨h1, h2⟩ := List.getElem?_eq_some_iff.1 h
 rw [List.drop_eq_getElem_cons h1, h2]
set_option maxHeartbeats 8000000 in
set_option maxRecDepth 1000000 in
theorem blocks_any (o f : ByteArray) (ep : Int) (A : Option Addr) (c : Nat) (rs : List ByteArray) (B : Option Addr) (d : Nat) (ws : List ByteArray) (root signer : ByteArray) (T : Option Addr) (ct : Nat) (ks : List (ByteArray × ByteArray)) (w : World) (hA : SReads w A rs) (hB : SReads w B ws) (hf : Few ⟨o.data.toList, f.data.toList, ep, bl rs, bl ws⟩)
    (hK : PReads w T ks) (hkl : ks.length ≤ 1000) (hz : ∀ y ∈ ks, y.1.size ≤ 10000 ∧ y.2.size ≤ 10000) (hro : root.size ≤ 10000) (hsi : signer.size ≤ 10000) :
    Calls Tryz.prog 119 #[RV o f ep A rs.length c B ws.length d, .string root, .string signer, .slice T ks.length ct] w fun e w' => Pe w.heap.size (blksC ⟨o.data.toList, f.data.toList, ep, bl rs, bl ws⟩ root.data.toList signer.data.toList (pl ks)) e w' ∧ Below w.heap.size w w' := by
  obtain ⟨i0, hi0, hz0, hz1, hz2⟩ := info_parts block_info
  have HA := zh hA
  have HBB := zh hB
  have HK := zh hK
  have HZ := zh hz
  have hep := hf.2.2.2.2.2.2
  simp only at hep
  have HST := zh fun w => Reg.state_any root ep w (by omega) hep
  have HCN := zh fun (u : ByteArray) w h1 h2 => can_code o f ep A c rs B d ws u true w h1 h2 hf
  obtain ⟨rr, hrr⟩ : ∃ r : Rt, r = ⟨o.data.toList, f.data.toList, ep, bl rs, bl ws⟩ := ⟨_, rfl⟩
  have hre : rr.ep = ep := by rw [hrr]
  rw [← hrr] at HCN ⊢
  have HRE := zh hre
  clear hA hB hK hz hf hep hrr hre
  unfold RV at HCN ⊢
  by_cases h0 : ks.length = 0
  · obtain rfl : ks = [] := List.eq_nil_of_length_eq_zero h0
    rw [show blksC rr root.data.toList signer.data.toList (pl []) = ([], 0) by unfold blksC; rw [if_pos (show pl [] = [] from rfl)]]
    clear h0
    go_enter Tryz.func119, Tryz.ntmps119
    go_wp2
    go_ret2
    exact ⟨pe_nil _ _ _, al _ _⟩
  have hn0 : ¬ (ks.length : Int) = 0 := by omega
  have q0 : ((ks.length : Int) == 0) = false := by simpa using hn0
  obtain ⟨st, es, hst⟩ : ∃ s e, Reg.state root.data.toList ep = (s, e) := ⟨_, _, rfl⟩
  rw [hst] at HST
  have hstl : st.length ≤ 10000 := by
    have h := state_len root.data.toList ep (by rw [← Lib.size_eq]; exact hro)
    rw [hst] at h
    exact h
  have hbk : blksC rr root.data.toList signer.data.toList (pl ks) = if es ≠ 0 then ([], es) else bls rr st signer.data.toList (pl ks) := by
    unfold blksC
    rw [if_neg (by intro e; have := congrArg List.length e; rw [pl_len] at this; exact h0 this), HRE.out, hst]
  rw [hbk]
  clear hbk hst
  by_cases hes : es = 0
  case neg =>
    rw [if_pos hes]
    have q : (es != 0) = true := by simpa using hes
    go_enter Tryz.func119, Tryz.ntmps119
    go_wp2_with fail
    have HB0 := zh (al w (.cells #[.string o, .string f, .int .i64 ep, .slice A rs.length c, .slice B ws.length d] 48))
    generalize w.alloc (.cells #[.string o, .string f, .int .i64 ep, .slice A rs.length c, .slice B ws.length d] 48) = w0 at HB0 ⊢
    with_reducible refine (HST.out _).mono ?_
    rintro e w1 ⟨⟨S, hS, rfl⟩, hb1⟩
    have HB1 := zh (Bel.call HB0.out hb1)
    clear hb1 hS
    dsimp only
    go_wp2
    go_ret2
    exact ⟨pe_nil _ _ _, HB1.out⟩
  subst hes
  rw [if_neg (by simp)]
  go_enter Tryz.func119, Tryz.ntmps119
  go_wp2_with fail
  have HB0 := zh (al w (.cells #[.string o, .string f, .int .i64 ep, .slice A rs.length c, .slice B ws.length d] 48))
  have HX0 := zh (bx_alloc w o f ep A rs.length c B ws.length d 48)
  obtain ⟨gr, hgr⟩ : ∃ n, w.heap.size = n := ⟨_, rfl⟩
  generalize w.alloc (.cells #[.string o, .string f, .int .i64 ep, .slice A rs.length c, .slice B ws.length d] 48) = w0 at HB0 HX0 ⊢
  rw [hgr] at HX0 ⊢
  have HGR := zh hgr
  clear hgr
  with_reducible refine (HST.out _).mono ?_
  rintro e w1 ⟨⟨S, hS, rfl⟩, hb1⟩
  have HB1 := zh (Bel.call HB0.out hb1)
  have HX1 := zh (HX0.out.below hb1 (bx_lt HX0.out))
  dsimp only at hS
  have hSz : S.size ≤ 140737488355328 := by rw [Lib.size_eq, hS]; omega
  have HS := zh hS
  clear hb1 hS
  dsimp only
  go_wp2_with fail
  with_reducible refine (t_OfText ⟨#[]⟩ _ (by decide)).mono ?_
  rintro e w2 ⟨⟨N, hN, rfl⟩, hb2⟩
  rw [show ofText (⟨#[]⟩ : ByteArray).data.toList = (emptyT, 0) from ofText_nil] at hN ⊢
  have HB2 := zh (Bel.call HB1.out hb2)
  have HX2 := zh (HX1.out.below hb2 (bx_lt HX1.out))
  have HN := zh hN
  clear hb2 hN
  dsimp only at HN ⊢
  go_wp2_with fail
  go_loopw [14, 39] (fun v i wr => ∃ (k : Nat) (V : Value), k ≤ ks.length ∧ i = .int .i64 (k : Int) ∧ V = v ∧ Hid (∃ acc, bls rr st signer.data.toList (pl ks) = cont acc (bls rr st signer.data.toList ((pl ks).drop k)) ∧ acc.length = k ∧ OwnsP 120 w2 acc V wr)) (fun _ i _ => ks.length - (intOf i).toNat)
  case atStart => exact ⟨0, _, Nat.zero_le _, rfl, rfl, zh ⟨[], (cont_nil _ (bls_nil _ _ _ _)).symm, rfl, ownsP_nil _ w2 (Below.refl _ _)⟩⟩
  case round =>
    obtain ⟨k2, v, hk2, rfl, rfl, HO⟩ := hrel
    obtain ⟨acc, hadr, hal, zs, hz, hown, hbel⟩ := HO.out
    have HAD := zh hadr
    have HOW := zh hown
    have HBL := zh hbel
    have HZS := zh hz
    have hzl : zs.length = k2 := by rw [← hal, ← hz, pl_len]
    clear hadr hal hown hbel hz
    by_cases hlt : (k2 : Int) < (ks.length : Int)
    · have hkn : k2 < ks.length := by omega
      obtain ⟨b, off, rfl, hbl, hcl, hcl2⟩ := (HK.out.below (Bel.call HB2.out HBL.out) zl) k2 hkn
      obtain ⟨⟨u, x⟩, hux⟩ : ∃ q, ks.getD k2 default = q := ⟨_, rfl⟩
      rw [hux] at hcl hcl2
      simp only at hcl hcl2
      have HDR := zh (drop_pl hkn hux)
      obtain ⟨hu1, hx1⟩ := HZ.out (u, x) (by rw [← hux]; simp [List.getD, hkn])
      simp only at hu1 hx1
      obtain ⟨bx, eb, hbe⟩ : ∃ bx eb, boxd x.data.toList st (if can rr u.data.toList true = true then signer.data.toList else emptyT) = (bx, eb) := ⟨_, _, rfl⟩
      have HBE := zh hbe
      obtain ⟨c0, c1, c2, c3, c4, _⟩ := HX2.out.below HBL.out (bx_lt HX2.out)
      clear hux hbe hbl hkn
      cases hcan : can rr u.data.toList true with
      | true =>
        have HTO : Hid (signer.data.toList = if can rr u.data.toList true = true then signer.data.toList else emptyT) := zh (by rw [hcan]; rfl)
        have HCC := zh (HCN.out u)
        rw [hcan] at HCC
        have HBXD : Hid (∀ w, Calls Tryz.prog 168 #[.string x, .string S, .string signer] w fun e w' => Sr (bx, eb) e ∧ Below w.heap.size w w') := zh fun w => by
          have h := boxed_any x S signer w (by omega) hSz (by omega)
          rw [HS.out, HTO.out, HBE.out] at h
          exact h
        clear hcan
        go_wp2_with fail
        have hca : ∀ i, (wr.alloc (.cells #[.string u, .string x] 115)).cell? ⟨wr.heap.size, i, none⟩ = (#[.string u, .string x] : Array Value)[i]? := fun i => cell_of_row _ _ _ _ _ (0, 0) (heap_alloc_new wr _)
        have hka := al wr (.cells #[.string u, .string x] 115)
        have hla : (wr.alloc (.cells #[.string u, .string x] 115)).heap.size = wr.heap.size + 1 := by simp
        obtain ⟨gk, hgk⟩ : ∃ n, wr.heap.size = n := ⟨_, rfl⟩
        have HBW := zh (Bel.call HBL.out hka)
        have HOW2 := zh (own_below HOW.out hka zl)
        have HGK := zh hgk
        rw [hgk] at hca hla ⊢
        have hck : Bk2 gk (wr.alloc (.cells #[.string u, .string x] 115)) u x := ⟨by rw [hla]; omega, hca 0, hca 1⟩
        have HCK := zh hck
        clear hca hka hla hgk hck hcl hcl2
        generalize wr.alloc (.cells #[.string u, .string x] 115) = wa at HBW HOW2 HCK ⊢
        have HSA := zh (HA.out.below (Bel.call HB2.out HBW.out) zl)
        have HSB := zh (HBB.out.below (Bel.call HB2.out HBW.out) zl)
        clear c0 c1 c2 c3 c4
        obtain ⟨c0, c1, c2, c3, c4, _⟩ := HX2.out.below HBW.out (bx_lt HX2.out)
        with_reducible refine (HCC.out _ HSA.out HSB.out).mono ?_
        rintro e w4 ⟨rfl, hb4⟩
        have HB4 := zh (Bel.call HBW.out hb4)
        have HO4 := zh (own_below HOW2.out hb4 zl)
        have HCK4 := zh (HCK.out.call hb4)
        clear hb4 HCC HSA HSB c0 c1 c2 c3 c4
        dsimp only
        obtain ⟨_, k0, k1⟩ := HCK4.out
        go_wp2_with fail
        clear k0 k1
        with_reducible refine (HBXD.out _).mono ?_
        rintro e w5 ⟨⟨Z, hZ, rfl⟩, hb5⟩
        have HB5 := zh (Bel.call HB4.out hb5)
        have HO5 := zh (own_below HO4.out hb5 zl)
        obtain ⟨_, k0, k1⟩ := HCK4.out.call hb5
        dsimp only at hZ
        have HZZ := zh hZ
        clear hb5 hZ HBXD
        dsimp only
        by_cases heb : eb = 0
        case neg =>
          have q : (eb != 0) = true := by simpa using heb
          have HR : Hid (bls rr st signer.data.toList (pl ks) = ([], eb)) := zh (by
            rw [HAD.out, HDR.out, bls]
            simp only
            rw [HBE.out]
            simp only
            rw [if_pos heb]
            exact cont_err _ heb)
          go_wp2
          go_ret2
          rw [HR.out]
          exact ⟨pe_nil _ _ _, Bel.call HB2.out HB5.out⟩
        subst heb
        have HST2 : Hid (bls rr st signer.data.toList (pl ks) = cont (acc ++ [(u.data.toList, Z.data.toList)]) (bls rr st signer.data.toList ((pl ks).drop (k2 + 1)))) := zh (by
          rw [HAD.out, HDR.out, bls]
          simp only
          rw [HBE.out]
          simp only
          rw [if_neg (by simp), HZZ.out]
          exact cont_cons _ _ _)
        go_wp2_with (at_builtin
                     refine wpList_append_own _ rfl _ _ _ rfl w2.heap.size 120 i0 _ 2 32 Tryz.underlying58 hi0 hz0 hz1 hz2 rfl (by decide) _ zs.length (pcs zs) rfl ?c1 _ 1 1 [.string u, .string Z] rfl rfl ?c2 ?c3 ?c4 ?c5 ?c6 ?_
                     case c1 => exact HO5.out.alloc _
                     case c2 => exact lit_cells _ _ _
                     case c3 => exact pcs_one [(u, Z)]
                     case c4 => simp only [maxLen]; omega
                     case c5 => omega
                     case c6 =>
                       have h := HB5.out.size
                       simp only [World.alloc, Array.size_push]
                       omega
                     intro v6 w6 hown6 hgrow _
                     have HO6 := zh hown6
                     have HG6 := zh hgrow
                     clear hown6 hgrow)
        have HB6 : Hid (Below w2.heap.size w2 w6) := by
          have h1 := HB5.out
          refine zh ((h1.alloc h1.size (.cells #[.string u, .string Z] 120)).grown HG6.out (by
            have := h1.size
            simp only [World.alloc, Array.size_push]
            omega) fun g hg => ?_)
          exact (HO5.out.lt g hg).1
        go_roundw
        case rel =>
          refine ⟨k2 + 1, _, by omega, by go_num, rfl, zh ⟨acc ++ [(u.data.toList, Z.data.toList)], HST2.out, by rw [List.length_append, ← HZS.out, pl_len, hzl]; rfl, zs ++ [(u, Z)], ?_, ?_, HB6.out⟩⟩
          · rw [← HZS.out]; simp [pl]
          · rw [pcs_app, List.length_append]; exact HO6.out
        case measure => show ks.length - ((k2 : Int) + 1).toNat < ks.length - (k2 : Int).toNat; omega
      | false =>
        have HTO : Hid (N.data.toList = if can rr u.data.toList true = true then signer.data.toList else emptyT) := zh (by rw [hcan, HN.out]; rfl)
        have HCC := zh (HCN.out u)
        rw [hcan] at HCC
        have HBXD : Hid (∀ w, Calls Tryz.prog 168 #[.string x, .string S, .string N] w fun e w' => Sr (bx, eb) e ∧ Below w.heap.size w w') := zh fun w => by
          have h := boxed_any x S N w (by omega) hSz (by rw [Lib.size_eq, HN.out]; decide)
          rw [HS.out, HTO.out, HBE.out] at h
          exact h
        clear hcan
        go_wp2_with fail
        have hca : ∀ i, (wr.alloc (.cells #[.string u, .string x] 115)).cell? ⟨wr.heap.size, i, none⟩ = (#[.string u, .string x] : Array Value)[i]? := fun i => cell_of_row _ _ _ _ _ (0, 0) (heap_alloc_new wr _)
        have hka := al wr (.cells #[.string u, .string x] 115)
        have hla : (wr.alloc (.cells #[.string u, .string x] 115)).heap.size = wr.heap.size + 1 := by simp
        obtain ⟨gk, hgk⟩ : ∃ n, wr.heap.size = n := ⟨_, rfl⟩
        have HBW := zh (Bel.call HBL.out hka)
        have HOW2 := zh (own_below HOW.out hka zl)
        have HGK := zh hgk
        rw [hgk] at hca hla ⊢
        have hck : Bk2 gk (wr.alloc (.cells #[.string u, .string x] 115)) u x := ⟨by rw [hla]; omega, hca 0, hca 1⟩
        have HCK := zh hck
        clear hca hka hla hgk hck hcl hcl2
        generalize wr.alloc (.cells #[.string u, .string x] 115) = wa at HBW HOW2 HCK ⊢
        have HSA := zh (HA.out.below (Bel.call HB2.out HBW.out) zl)
        have HSB := zh (HBB.out.below (Bel.call HB2.out HBW.out) zl)
        clear c0 c1 c2 c3 c4
        obtain ⟨c0, c1, c2, c3, c4, _⟩ := HX2.out.below HBW.out (bx_lt HX2.out)
        with_reducible refine (HCC.out _ HSA.out HSB.out).mono ?_
        rintro e w4 ⟨rfl, hb4⟩
        have HB4 := zh (Bel.call HBW.out hb4)
        have HO4 := zh (own_below HOW2.out hb4 zl)
        have HCK4 := zh (HCK.out.call hb4)
        clear hb4 HCC HSA HSB c0 c1 c2 c3 c4
        dsimp only
        obtain ⟨_, k0, k1⟩ := HCK4.out
        go_wp2_with fail
        clear k0 k1
        with_reducible refine (HBXD.out _).mono ?_
        rintro e w5 ⟨⟨Z, hZ, rfl⟩, hb5⟩
        have HB5 := zh (Bel.call HB4.out hb5)
        have HO5 := zh (own_below HO4.out hb5 zl)
        obtain ⟨_, k0, k1⟩ := HCK4.out.call hb5
        dsimp only at hZ
        have HZZ := zh hZ
        clear hb5 hZ HBXD
        dsimp only
        by_cases heb : eb = 0
        case neg =>
          have q : (eb != 0) = true := by simpa using heb
          have HR : Hid (bls rr st signer.data.toList (pl ks) = ([], eb)) := zh (by
            rw [HAD.out, HDR.out, bls]
            simp only
            rw [HBE.out]
            simp only
            rw [if_pos heb]
            exact cont_err _ heb)
          go_wp2
          go_ret2
          rw [HR.out]
          exact ⟨pe_nil _ _ _, Bel.call HB2.out HB5.out⟩
        subst heb
        have HST2 : Hid (bls rr st signer.data.toList (pl ks) = cont (acc ++ [(u.data.toList, Z.data.toList)]) (bls rr st signer.data.toList ((pl ks).drop (k2 + 1)))) := zh (by
          rw [HAD.out, HDR.out, bls]
          simp only
          rw [HBE.out]
          simp only
          rw [if_neg (by simp), HZZ.out]
          exact cont_cons _ _ _)
        go_wp2_with (at_builtin
                     refine wpList_append_own _ rfl _ _ _ rfl w2.heap.size 120 i0 _ 2 32 Tryz.underlying58 hi0 hz0 hz1 hz2 rfl (by decide) _ zs.length (pcs zs) rfl ?c1 _ 1 1 [.string u, .string Z] rfl rfl ?c2 ?c3 ?c4 ?c5 ?c6 ?_
                     case c1 => exact HO5.out.alloc _
                     case c2 => exact lit_cells _ _ _
                     case c3 => exact pcs_one [(u, Z)]
                     case c4 => simp only [maxLen]; omega
                     case c5 => omega
                     case c6 =>
                       have h := HB5.out.size
                       simp only [World.alloc, Array.size_push]
                       omega
                     intro v6 w6 hown6 hgrow _
                     have HO6 := zh hown6
                     have HG6 := zh hgrow
                     clear hown6 hgrow)
        have HB6 : Hid (Below w2.heap.size w2 w6) := by
          have h1 := HB5.out
          refine zh ((h1.alloc h1.size (.cells #[.string u, .string Z] 120)).grown HG6.out (by
            have := h1.size
            simp only [World.alloc, Array.size_push]
            omega) fun g hg => ?_)
          exact (HO5.out.lt g hg).1
        go_roundw
        case rel =>
          refine ⟨k2 + 1, _, by omega, by go_num, rfl, zh ⟨acc ++ [(u.data.toList, Z.data.toList)], HST2.out, by rw [List.length_append, ← HZS.out, pl_len, hzl]; rfl, zs ++ [(u, Z)], ?_, ?_, HB6.out⟩⟩
          · rw [← HZS.out]; simp [pl]
          · rw [pcs_app, List.length_append]; exact HO6.out
        case measure => show ks.length - ((k2 : Int) + 1).toNat < ks.length - (k2 : Int).toNat; omega
    · have hke : k2 = ks.length := by omega
      have HR : Hid (bls rr st signer.data.toList (pl ks) = (acc, 0)) := zh (by
        rw [HAD.out, hke, List.drop_of_length_le (by rw [pl_len]; exact Nat.le_refl _), bls]
        unfold cont
        simp)
      have HF : Hid (Plst w2.heap.size acc (.returned v) wr) := zh (ownsP_lst ⟨zs, HZS.out, HOW.out, HBL.out⟩)
      obtain ⟨A5, c5, k5, hk5, hn5, hr5, hf5, he5⟩ := HF.out
      obtain rfl : v = .slice A5 k5.length c5 := by injection he5
      have HFF : Hid (Pe w.heap.size (acc, 0) (.returned (.tuple #[.slice A5 k5.length c5, .int .i64 0])) wr) := zh ⟨A5, c5, k5, hk5, hn5, hr5, fun b off e => by
        have h1 := own1_of (show wr.ownsRow w2.heap.size 120 2 (.slice A5 k5.length c5) k5.length (pcs zs) by have h := HOW.out; rw [show zs.length = k5.length by have := congrArg List.length (hk5.trans HZS.out.symm); rw [pl_len, pl_len] at this; exact this.symm] at h; exact h) b off e
        exact ⟨Nat.le_trans HB2.out.size h1.1, h1.2⟩, rfl⟩
      clear hk5 hn5 hr5 hf5 he5
      go_wp2
      go_ret2
      rw [HR.out]
      exact ⟨HFF.out, Bel.call HB2.out HBL.out⟩
end Go.Proofs.YtbdealddjonobaaGreat.Mta

