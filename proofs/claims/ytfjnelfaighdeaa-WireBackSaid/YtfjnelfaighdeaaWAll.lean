/-
  CONTRACTS of wire.PutAll, TakeAll at this program. By an AI agent; no person has read it.
-/
import Derived.Test.YtfjnelfaighdeaaWPut
import Derived.Laws.MakeOwn
namespace Go.Proofs.Ytfjnelfaighdeaa.Wire
open Go.RowKit

theorem str_info : (Try.prog.info? 9).map (fun i => (i.zero, i.size, i.bytes)) = some (some (.string ⟨#[]⟩), 1, 16) := by kernel_rfl
def sv (ys : List ByteArray) : List Value := ys.map Value.string
theorem sv_one (ys : List ByteArray) : ∀ u ∈ sv ys, u.oneCell' = true := fun u hu => by
  obtain ⟨y, _, rfl⟩ := List.mem_map.1 hu
  rfl
/-- The texts of a row, as bytes. -/
def bl (ys : List ByteArray) : List (List UInt8) := ys.map (·.data.toList)

theorem own_below {w w' : World} {base : Nat} {e : TypeId} {size n : Nat} {v : Value} {xs : List Value} {B : Nat} (h : w.ownsRow base e size v n xs) (hb : Below B w w') (hB : w.heap.size ≤ B) : w'.ownsRow base e size v n xs :=
  h.kept (row := none) ⟨hb.os, hb.tape, hb.output, hb.size, fun k hk _ => hb.block k (by omega)⟩ (by
    cases hv : v.ownBlock with
    | none => exact .inl rfl
    | some k => exact .inr (by simp))
theorem make_strs (c : Nat) (hc : c ≤ 1000000) (W : World) : ∃ cs : Array Value, cs.size = c ∧
    (Instr.makeSlice 29 (.int .i64 0) (.int .i64 (c : Int))).run Try.prog W = .ok (.slice (some ⟨W.heap.size, 0, none⟩) 0 c) (W.alloc (.cells cs 9)) := by
  obtain ⟨i0, hi0, hz0, hz1, hz2⟩ := info_parts str_info
  have h := run_make (P := Try.prog) W 29 9 i0 _ Try.underlying29 hi0 hz0 .i64 .i64 0 c (by omega) (by omega) (by rw [hz2]; omega) (by omega)
  rw [hz1] at h
  exact ⟨madeCells (Value.string ⟨#[]⟩).cells ((c : Int).toNat * 1), by simp [size_madeCells], by simpa using h⟩
/-- A new one-element (or more) row, read at its cells. -/
theorem lit_cells (W : World) (cs : Array Value) (t : TypeId) : ∀ j u, cs.toList[j]? = some u → (W.alloc (.cells cs t)).cell? ((⟨W.heap.size, 0, none⟩ : Addr).add j) = some u := fun j u hu => by
  rw [add_none, Nat.zero_add]
  have h : (W.alloc (.cells cs t)).cell? ⟨W.heap.size, j, none⟩ = cs[j]? := cell_of_row _ _ _ _ _ (0, 0) (heap_alloc_new W _)
  rw [h, ← Array.getElem?_toList]; exact hu

/-- What PutAll has laid after k texts. -/
def Laid (w : World) (n : Nat) (ys : List ByteArray) (k : Nat) (v : Value) (wr : World) : Prop := ∃ ps : List ByteArray, wr.ownsRow w.heap.size 9 1 v (1 + 2 * k) (sv ps) ∧ cat ps = put n ++ (bl (ys.take k)).flatMap putText ∧ Below w.heap.size w wr
theorem laid_step {w w2 : World} {n k : Nat} {ys : List ByteArray} {v' : Value} {T y : ByteArray} {ps : List ByteArray} (hc : cat ps = put n ++ (bl (ys.take k)).flatMap putText) (hk : k < ys.length) (hy : ys.getD k ByteArray.empty = y)
    (hT : T.data.toList = put y.data.toList.length) (ho : w2.ownsRow w.heap.size 9 1 v' (1 + 2 * k + 2) (sv ps ++ [.string T, .string y])) (hb : Below w.heap.size w w2) : Laid w n ys (k + 1) v' w2 := by
  refine ⟨ps ++ [T, y], ?_, ?_, hb⟩
  · rw [show 1 + 2 * (k + 1) = 1 + 2 * k + 2 by omega]
    simpa [sv] using ho
  · have e : ys[k] = y := by rw [← hy]; simp [List.getD, hk]
    rw [List.take_succ_eq_append_getElem hk, e]
    have h1 : cat (ps ++ [T, y]) = cat ps ++ (T.data.toList ++ y.data.toList) := by simp [cat]
    rw [h1, hc, hT]
    simp [bl, putText]
theorem flat_len (ls : List (List UInt8)) (h : ∀ l ∈ ls, l.length ≤ 140737488355328) : (ls.flatMap putText).length ≤ 9 * ls.length + ls.flatten.length := by
  induction ls with
  | nil => simp
  | cons l ls ih =>
    have h1 := h l (by simp)
    have h2 := (put_le (n := l.length) (by omega)).2
    have := ih fun x hx => h x (by simp [hx])
    simp only [List.flatMap_cons, List.length_append, List.length_cons, List.flatten_cons, putText_len]
    omega

theorem bl_at {ys : List ByteArray} {k : Nat} {y : ByteArray} (hk : k < ys.length) (hy : ys.getD k ByteArray.empty = y) : y.size ≤ (bl ys).flatten.length := by
  have e : ys[k] = y := by rw [← hy]; simp [List.getD, hk]
  rw [Lib.size_eq]
  have hm : y.data.toList ∈ bl ys := List.mem_map.2 ⟨y, by rw [← e]; exact List.getElem_mem hk, rfl⟩
  have key : ∀ (ls : List (List UInt8)) (x : List UInt8), x ∈ ls → x.length ≤ ls.flatten.length := by
    intro ls x hx
    induction ls with
    | nil => cases hx
    | cons l ls ih =>
      rw [List.flatten_cons, List.length_append]
      rcases List.mem_cons.1 hx with rfl | hx
      · omega
      · have := ih hx; omega
  exact key _ _ hm
theorem bl_each {ys : List ByteArray} : ∀ l ∈ bl ys, l.length ≤ (bl ys).flatten.length := fun l hl => by
  obtain ⟨y, hy, rfl⟩ := List.mem_map.1 hl
  obtain ⟨k, hk, rfl⟩ := List.mem_iff_getElem.1 hy
  have := bl_at (y := ys[k]) hk (by simp [List.getD, hk])
  rw [Lib.size_eq] at this
  exact this
theorem bl_len (ys : List ByteArray) : (bl ys).length = ys.length := by simp [bl]

set_option maxHeartbeats 4000000 in
set_option maxRecDepth 1000000 in
theorem putAll_any (a : Option Addr) (cap : Nat) (ys : List ByteArray) (w : World) (hr : SReads w a ys) (hn : ys.length ≤ 100000) (hsum : (bl ys).flatten.length ≤ 1000000000000) :
    Calls Try.prog 23 #[.slice a ys.length cap] w fun e w' => St (putAll (bl ys)) e ∧ Below w.heap.size w w' := by
  have HR := Lib.hid hr
  have HS := Lib.hid hsum
  clear hr hsum
  obtain ⟨i0, hi0, hz0, hz1, hz2⟩ := info_parts str_info
  obtain ⟨cs, hcs, hmk⟩ := make_strs (1 + 2 * ys.length) (by omega) w
  have hmk' : (Instr.makeSlice 29 (.int .i64 0) (.int .i64 (1 + 2 * (ys.length : Int)))).run Try.prog w = .ok (.slice (some ⟨w.heap.size, 0, none⟩) 0 (1 + 2 * ys.length)) (w.alloc (.cells cs 9)) := by
    have : ((1 + 2 * ys.length : Nat) : Int) = 1 + 2 * (ys.length : Int) := by omega
    rw [← this]; exact hmk
  have HCS := Lib.hid hcs
  have hwr : IntKind.u64.wrap (ys.length : Int) = (ys.length : Int) := by rw [IntKind.wrap_u64]; omega
  clear hmk hcs
  have hown0 := World.ownsRow_made (e := 9) (size := 1) (base := w.heap.size) w cs (1 + 2 * ys.length) (Nat.le_refl _) (by simp only [maxLen]; omega) (by rw [HCS.out]; omega)
  have HO := Lib.hid hown0
  clear hown0
  go_enter Try.func23, Try.ntmps23
  go_wp2_with (first
    | (go_at_call 21; refine (put_any _ _ (by omega)).mono ?_; rintro e w1 ⟨⟨T, hT, rfl⟩, hb⟩; have HT := Lib.hid hT; have HB := Lib.hid hb; clear hT hb)
    | (at_builtin
       refine wpList_append_own _ rfl _ _ _ rfl w.heap.size 9 i0 _ 1 16 Try.underlying29 hi0 hz0 hz1 hz2 rfl (by decide) _ 0 [] rfl ?c1 _ 1 1 [.string T] rfl rfl ?c2 ?c3 ?c4 ?c5 ?c6 ?_
       case c1 => exact (own_below HO.out HB.out (Nat.le_refl _)).alloc _
       case c2 => exact lit_cells _ _ _
       case c3 => exact sv_one [T]
       case c4 => simp only [maxLen]; omega
       case c5 => omega
       case c6 =>
         have h := HB.out.size
         simp only [World.alloc, Array.size_push] at h ⊢
         omega
       intro v1 w2 hown hgrow _
       have HO1 := Lib.hid hown
       have HG1 := Lib.hid hgrow
       clear hown hgrow))
  have hlaid : Laid w ys.length ys 0 v1 w2 := by
    refine ⟨[T], by simpa [sv] using HO1.out, ?_, ?_⟩
    · simp [cat, bl, HT.out]
    · have h1 : Below w.heap.size w w1 := ((Below.refl _ w).alloc (Nat.le_refl _) _).trans (HB.out.mono (by simp only [World.alloc, Array.size_push]; omega))
      have h2 := HB.out.size
      refine (h1.alloc h1.size (.cells #[.string T] 9)).grown HG1.out (by
        simp only [World.alloc, Array.size_push] at h2 ⊢
        omega) fun k hk => ?_
      exact (HO.out.lt k hk).1
  have HLD := Lib.hid hlaid
  clear hlaid
  go_loopw [3, 20] (fun v i wr => ∃ k : Nat, k ≤ ys.length ∧ i = .int .i64 k ∧ Hid (Laid w ys.length ys k v wr)) (fun _ i _ => ys.length - (intOf i).toNat)
  case atStart => exact ⟨0, Nat.zero_le _, rfl, HLD⟩
  case round =>
    obtain ⟨k, hk, rfl, HL⟩ := hrel
    clear HO1 HG1 HB HT HLD HO
    by_cases hlt : k < ys.length
    · obtain ⟨b, off, rfl, hblt, hcell⟩ := HR.out k hlt
      obtain ⟨y, hy⟩ : ∃ y, ys.getD k ByteArray.empty = y := ⟨_, rfl⟩
      rw [hy] at hcell
      have hyz := bl_at hlt hy
      have HSO := HS.out
      have hyb : y.size ≤ 1000000000000 := by omega
      have HY := Lib.hid hy
      clear hy hyz HSO
      obtain ⟨ps, ho, hcat, hbel⟩ := HL.out
      rw [← hbel.cell (p := ⟨b, off + k, none⟩) hblt] at hcell
      have hwr2 : IntKind.u64.wrap (y.size : Int) = (y.size : Int) := by rw [IntKind.wrap_u64]; omega
      have HOO := Lib.hid ho
      have HCC := Lib.hid hcat
      have HBB := Lib.hid hbel
      clear ho hcat hbel
      go_wp2_with (first
        | (go_at_call 21; refine (put_any _ _ (by omega)).mono ?_; rintro e w5 ⟨⟨T5, hT, rfl⟩, hb⟩; have HT := Lib.hid hT; have HB := Lib.hid hb; clear hT hb)
        | (at_builtin
           refine wpList_append_own _ rfl _ _ _ rfl w.heap.size 9 i0 _ 1 16 Try.underlying29 hi0 hz0 hz1 hz2 rfl (by decide) _ (1 + 2 * k) (sv ps) rfl ?c1 _ 2 2 [.string T5, .string y] rfl rfl ?c2 ?c3 ?c4 ?c5 ?c6 ?_
           case c1 => exact (own_below HOO.out HB.out (Nat.le_refl _)).alloc _
           case c2 => exact lit_cells _ _ _
           case c3 => exact sv_one [T5, y]
           case c4 => simp only [maxLen]; omega
           case c5 => omega
           case c6 =>
             have h := HB.out.size
             have h2 := HBB.out.size
             simp only [World.alloc, Array.size_push] at h ⊢
             omega
           intro v6 w6 hown hgrow _
           have HO6 := Lib.hid hown
           have HG6 := Lib.hid hgrow
           clear hown hgrow))
      go_roundw
      case rel =>
        refine ⟨k + 1, by omega, by go_num, laid_step HCC.out hlt HY.out (by rw [HT.out, Lib.size_eq]) HO6.out ?_⟩
        have h1 := HBB.out.trans (HB.out.mono HBB.out.size)
        refine (h1.alloc h1.size (.cells #[.string T5, .string y] 9)).grown HG6.out (by
          have := h1.size
          simp only [World.alloc, Array.size_push]
          omega) fun g hg => ?_
        exact (HOO.out.lt g hg).1
      case measure => simp [intOf]; omega
    · obtain rfl : k = ys.length := by omega
      obtain ⟨ps, ho, hcat, hbel⟩ := HL.out
      obtain ⟨g, c, rfl, _, _⟩ := ho.form (by omega)
      obtain ⟨hsr, hpl, hpc⟩ := sreads_own ho
      rw [List.take_length] at hcat
      have hlen : (cat ps).length ≤ 140737488355328 := by
        have h1 := flat_len (bl ys) (fun l hl => by have := bl_each l hl; have := HS.out; omega)
        have h2 := (put_le (n := ys.length) (by omega)).2
        have h3 := HS.out
        have h4 := bl_len ys
        rw [hcat, List.length_append]; omega
      have hcall : Calls Try.prog 26 #[.slice (some ⟨g, 0, none⟩) (1 + 2 * ys.length) c] wr fun e w' => St (putAll (bl ys)) e ∧ Below w.heap.size w w' := by
        have h := together_any (some ⟨g, 0, none⟩) c ps wr hsr (by omega) (by omega) hlen
        rw [hpl, hcat] at h
        refine h.mono fun e w' ⟨he, hb⟩ => ⟨?_, hbel.trans (hb.mono hbel.size)⟩
        rw [putAll, bl_len]
        exact he
      have HC := Lib.hid hcall
      clear ho hcat hbel hsr hpl hpc hlen hcall
      go_wp2_with (go_at_call 26; refine HC.out.mono ?_; rintro e w' ⟨⟨U, hU, rfl⟩, hb⟩; have HU := Lib.hid hU; have HB3 := Lib.hid hb; clear hU hb)
      go_ret
      exact ⟨⟨U, HU.out, rfl⟩, HB3.out⟩
end Go.Proofs.Ytfjnelfaighdeaa.Wire
