/-
  LIBRARY CONTRACT of maps.Clone at this program (the map of what is gone), laid by hand. By an AI agent; no person has read it.
-/
import Derived.Shelf.SlMaps.Clone
import Derived.Test.YtbdealddjonobaaGreatUMap
namespace Go.Proofs.YtbdealddjonobaaGreat.Usr
open Go Go.RowKit Go.Shelf

def clone_ren : Go.Shelf.Ren := ⟨fun | 5 => 54 | 7 => 100 | n => n, fun | 4 => 4 | 20 => 20 | 23 => 95 | 25 => 9 | 3 => 22 | n => n, fun | n => n⟩
theorem clone_lays : Go.Proofs.SlLaysW.n5 Tryz.prog clone_ren := {
  mixed := by kernel_rfl
  f5 := ⟨Tryz.f54.name, by decide, Tryz.func54.trans (congrArg some (by kernel_rfl))⟩
  f7 := Tryz.func100.trans (congrArg some (by kernel_rfl))
  t4 := Tryz.underlying4
  a4 := Tryz.isAgg4
  z4 := Tryz.sizeOf4
  v4 := Tryz.zeroValue4
  t20 := Tryz.underlying20
  a20 := Tryz.isAgg20
  z20 := Tryz.sizeOf20
  v20 := Tryz.zeroValue20
  t23 := Tryz.underlying95
  a23 := Tryz.isAgg95
  z23 := Tryz.sizeOf95
  v23 := Tryz.zeroValue95 }
theorem clone_c (mb : Nat) (H : Tk → Bool) (V : Tk → Value) (w : World) (h : MapIs w mb H V) : Calls Tryz.prog 54 #[.map (some mb)] w fun e w' => e = .returned (.map (some w.heap.size)) ∧ MapIs w' w.heap.size H V ∧ Below w.heap.size w w' := by
  obtain ⟨D, h1, h2⟩ := h
  exact (AnyW.maps_Clone_owns clone_lays 9 Rv mb _ D w h1).mono fun e w' t => ⟨t.1, ⟨D, t.2.1, h2⟩, t.2.2.2⟩
end Go.Proofs.YtbdealddjonobaaGreat.Usr
