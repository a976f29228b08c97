/-
  MCPubs. By an AI agent.
-/
import Derived.Test.YtlkgjceddbclpaaGreatEZ
import Derived.Test.YtlkgjceddbclpaaGreatEMCAdr
import Derived.Test.YtlkgjceddbclpaaGreatET2
import Derived.Test.YtlkgjceddbclpaaGreatEC1
import Derived.Test.YtlkgjceddbclpaaGreatED1
namespace Go.Proofs.YtlkgjceddbclpaaGreat.Mta
open Go.RowKit Wire Term Rig

set_option linter.unusedSimpArgs false
set_option linter.unusedVariables false
def Le (B : Nat) (x : List Tm × Int) (e : Ending) (w' : World) : Prop := ∃ (A : Option Addr) (c : Nat) (ys : List ByteArray), bl ys = x.1 ∧ (ys.length ≤ c ∧ (A = none → c = 0)) ∧ SReads w' A ys ∧ Own1 B w' A ∧ e = .returned (.tuple #[.slice A ys.length c, .int .i64 x.2])
theorem le_nil (B : Nat) (f : Int) (w' : World) : Le B ([], f) (.returned (.tuple #[.slice none 0 0, .int .i64 f])) w' := ⟨none, 0, [], rfl, ⟨Nat.le_refl _, fun _ => rfl⟩, SReads.nil _ _, own1_nil _ _, rfl⟩
set_option maxHeartbeats 8000000 in
set_option maxRecDepth 1000000 in
theorem publics_any (U : Option Addr) (cu : Nat) (us : List ByteArray) (w : World) (hU : SReads w U us) (hul : us.length ≤ 1000) (hz : ∀ y ∈ us, y.size ≤ 140737488355328) :
    Calls Tryz.prog 56 #[.slice U us.length cu] w fun e w' => Le w.heap.size (vfs (bl us)) e w' ∧ Below w.heap.size w w' := by
  obtain ⟨i0, hi0, hz0, hz1, hz2⟩ := info_parts str_info
  have HU := zh hU
  have HZ := zh hz
  clear hU hz
  go_enter Tryz.func56, Tryz.ntmps56
  go_wp2_with fail
  go_loopw [4, 11] (fun v i wr => ∃ (k : Nat) (V : Value), k ≤ us.length ∧ i = .int .i64 (k : Int) ∧ V = v ∧ Hid (∃ acc, vfs (bl us) = cont acc (vfs ((bl us).drop k)) ∧ acc.length = k ∧ Owns w acc V wr)) (fun _ i _ => us.length - (intOf i).toNat)
  case atStart => exact ⟨0, _, Nat.zero_le _, rfl, rfl, zh ⟨[], (cont_nil _ (vfs_nil _)).symm, rfl, ⟨[], rfl, World.ownsRow_nil _ _ _ _, Below.refl _ _⟩⟩⟩
  case round =>
    obtain ⟨k, v, hk, rfl, rfl, HO⟩ := hrel
    obtain ⟨acc, hadr, hal, zs, hz, hown, hbel⟩ := HO.out
    have HAD := zh hadr
    have HOW := zh hown
    have HBL := zh hbel
    have HZS := zh hz
    have hzl : zs.length = k := by rw [← hal, ← hz, bl_len]
    clear hadr hal hown hbel hz
    by_cases hlt : (k : Int) < (us.length : Int)
    · obtain ⟨b, off, rfl, hbl, hcl⟩ := (HU.out.below HBL.out zl) k (by omega)
      obtain ⟨y, hy⟩ : ∃ y, us.getD k ByteArray.empty = y := ⟨_, rfl⟩
      have hin : y ∈ us := by rw [← hy]; simp [List.getD, show k < us.length by omega]
      rw [hy] at hcl
      have HDR := zh (drop_at (by omega) hy)
      have HPU := zh fun w => t_OfPublic y w (HZ.out y hin)
      obtain ⟨p, e0, hp⟩ : ∃ p e, one 117 y.data.toList = (p, e) := ⟨_, _, rfl⟩
      rw [hp] at HPU
      have HP := zh hp
      clear hy hbl hin hp
      go_wp2_with fail
      with_reducible refine (HPU.out _).mono ?_
      rintro e w2 ⟨⟨T, hT, rfl⟩, hb2⟩
      have HB2 := zh (Bel.call HBL.out hb2)
      have HO2 := zh (own_below HOW.out hb2 zl)
      have HT := zh hT
      clear hb2 hcl HPU hT
      dsimp only
      by_cases he : e0 = 0
      · subst he
        have HST : Hid (vfs (bl us) = cont (acc ++ [T.data.toList]) (vfs ((bl us).drop (k + 1)))) := zh (by
          rw [HAD.out, HDR.out, vfs, HP.out]
          simp only
          rw [if_neg (by simp), HT.out]
          exact cont_cons _ _ _)
        go_wp2_with (at_builtin
                     refine wpList_append_own _ rfl _ _ _ rfl w.heap.size 9 i0 _ 1 16 Tryz.underlying25 hi0 hz0 hz1 hz2 rfl (by decide) _ zs.length (sv zs) rfl ?c1 _ 1 1 [.string T] rfl rfl ?c2 ?c3 ?c4 ?c5 ?c6 ?_
                     case c1 => exact HO2.out.alloc _
                     case c2 => exact lit_cells _ _ _
                     case c3 => exact sv_one [T]
                     case c4 => simp only [maxLen]; omega
                     case c5 => omega
                     case c6 =>
                       have h := HB2.out.size
                       simp only [World.alloc, Array.size_push]
                       omega
                     intro v6 w6 hown6 hgrow _
                     have HO6 := zh hown6
                     have HG6 := zh hgrow
                     clear hown6 hgrow)
        have HB6 : Hid (Below w.heap.size w w6) := by
          have h1 := HB2.out
          refine zh ((h1.alloc h1.size (.cells #[.string T] 9)).grown HG6.out (by
            have := h1.size
            simp only [World.alloc, Array.size_push]
            omega) fun g hg => ?_)
          exact (HO2.out.lt g hg).1
        go_roundw
        case rel =>
          refine ⟨k + 1, _, by omega, by go_num, rfl, zh ⟨acc ++ [T.data.toList], HST.out, by rw [List.length_append, ← HZS.out, bl_len, hzl]; rfl, zs ++ [T], ?_, ?_, HB6.out⟩⟩
          · rw [← HZS.out]; simp [bl]
          · rw [List.length_append]; simpa [sv] using HO6.out
        case measure => show us.length - ((k : Int) + 1).toNat < us.length - (k : Int).toNat; omega
      · have hq : (e0 != 0) = true := by simpa using he
        have HR : Hid (vfs (bl us) = ([], e0)) := zh (by
          rw [HAD.out, HDR.out, vfs, HP.out]; simp only; rw [if_pos he]; exact cont_err _ he)
        go_wp2
        go_ret2
        rw [HR.out]
        exact ⟨le_nil _ _ _, HB2.out⟩
    · have hke : k = us.length := by omega
      have HR : Hid (vfs (bl us) = (acc, 0)) := zh (by
        rw [HAD.out, hke, List.drop_of_length_le (by rw [bl_len]; exact Nat.le_refl _), vfs]
        unfold cont
        simp)
      have HF : Hid (Lst w.heap.size acc (.returned v) wr) := zh (owns_lst ⟨zs, HZS.out, HOW.out, HBL.out⟩)
      obtain ⟨A5, c5, k5, hk5, hn5, hr5, hf5, he5⟩ := HF.out
      obtain rfl : v = .slice A5 k5.length c5 := by injection he5
      have HFF : Hid (Le w.heap.size (acc, 0) (.returned (.tuple #[.slice A5 k5.length c5, .int .i64 0])) wr) := zh ⟨A5, c5, k5, hk5, hn5, hr5, own1_of (by have h := HOW.out; rw [show zs.length = k5.length by have := congrArg List.length (hk5.trans HZS.out.symm); rw [bl_len, bl_len] at this; exact this.symm] at h; exact h), rfl⟩
      clear hk5 hn5 hr5 hf5 he5
      go_wp2
      go_ret2
      rw [HR.out]
      exact ⟨HFF.out, HBL.out⟩
set_option maxHeartbeats 4000000 in
set_option maxRecDepth 1000000 in
theorem boxed_any (p s t : ByteArray) (w : World) (hp : p.size ≤ 140737488355328) (hs : s.size ≤ 140737488355328) (ht : t.size ≤ 140737488355328) :
    Calls Tryz.prog 114 #[.string p, .string s, .string t] w fun e w' => Sr (boxd p.data.toList s.data.toList t.data.toList) e ∧ Below w.heap.size w w' := by
  have HPR := zh fun w => t_OfPair s t w hs ht
  obtain ⟨x, e0, hx⟩ : ∃ x e, two 112 s.data.toList t.data.toList = (x, e) := ⟨_, _, rfl⟩
  rw [hx] at HPR
  have hd : boxd p.data.toList s.data.toList t.data.toList = if e0 ≠ 0 then ([], e0) else box p.data.toList x := by unfold boxd; rw [hx]
  have hl := Draw.two_len 112 s.data.toList t.data.toList
  rw [hx] at hl
  simp only at hl
  by_cases he : e0 = 0
  · subst he
    rw [hd, if_neg (by simp)]
    have HBX : Hid (∀ (X : ByteArray) w, X.data.toList = x → Calls Tryz.prog 150 #[.string p, .string X] w fun e w' => Sr (box p.data.toList x) e ∧ Below w.heap.size w w') := zh fun X w h => by
      rw [← h]; exact t_Box p X w hp (by rw [Lib.size_eq, h]; omega)
    obtain ⟨z, ez, hz⟩ : ∃ z e, box p.data.toList x = (z, e) := ⟨_, _, rfl⟩
    rw [hz] at HBX ⊢
    clear hd hl hx hz
    go_enter Tryz.func114, Tryz.ntmps114
    go_wp2_with fail
    with_reducible refine (HPR.out _).mono ?_
    rintro e w1 ⟨⟨X, hX, rfl⟩, hb1⟩
    have HB1 := zh hb1
    have HX := zh hX
    clear hb1 hX HPR
    dsimp only
    go_wp2_with fail
    with_reducible refine (HBX.out X _ HX.out).mono ?_
    rintro e w2 ⟨⟨Z, hZ, rfl⟩, hb2⟩
    have HB2 := zh (Bel.call HB1.out hb2)
    have HZ := zh hZ
    clear hb2 hZ HBX
    dsimp only
    go_wp2
    go_ret2
    exact ⟨⟨Z, HZ.out, rfl⟩, HB2.out⟩
  · rw [hd, if_pos he]
    have hq : (e0 != 0) = true := by simpa using he
    clear hd hl hx
    go_enter Tryz.func114, Tryz.ntmps114
    go_wp2_with fail
    with_reducible refine (HPR.out _).mono ?_
    rintro e w1 ⟨⟨X, hX, rfl⟩, hb1⟩
    have HB1 := zh hb1
    clear hb1 hX HPR
    dsimp only
    go_wp2
    go_ret2
    exact ⟨⟨⟨#[]⟩, rfl, rfl⟩, HB1.out⟩
end Go.Proofs.YtlkgjceddbclpaaGreat.Mta

