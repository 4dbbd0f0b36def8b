/-
  slices.Insert of numbers: where the library's contract lies at this program.
-/
import Derived.Shelf.Spec.SlicesInsertGrow
import Derived.Test.YthnfaccenlkedaaDoorProg
namespace Go.Proofs.YthnfaccenlkedaaDoor
def insInt_ren : Go.Shelf.Ren := ⟨fun | 21 => 74 | 27 => 95 | 28 => 96 | 35 => 105 | 39 => 107 | n => n, fun | 22 => 57 | 3 => 3 | 4 => 4 | 0 => 0 | n => n, fun | n => n⟩
theorem insInt : Go.Proofs.Lays2.n21 Tryd.prog insInt_ren := {
  mixed := by kernel_rfl
  f21 := Tryd.func74.trans (congrArg some (by kernel_rfl))
  f27 := Tryd.func95.trans (congrArg some (by kernel_rfl))
  f28 := Tryd.func96.trans (congrArg some (by kernel_rfl))
  f35 := Tryd.func105.trans (congrArg some (by kernel_rfl))
  f39 := Tryd.func107.trans (congrArg some (by kernel_rfl))
  t0 := Tryd.underlying0
  a0 := Tryd.isAgg0
  z0 := Tryd.sizeOf0
  v0 := Tryd.zeroValue0
  t3 := Tryd.underlying3
  a3 := Tryd.isAgg3
  z3 := Tryd.sizeOf3
  v3 := Tryd.zeroValue3
  t4 := Tryd.underlying4
  a4 := Tryd.isAgg4
  z4 := Tryd.sizeOf4
  v4 := Tryd.zeroValue4
  t22 := Tryd.underlying57
  a22 := Tryd.isAgg57
  z22 := Tryd.sizeOf57
  v22 := Tryd.zeroValue57
  i3 := by kernel_rfl }
end Go.Proofs.YthnfaccenlkedaaDoor
