/-
  slices.Insert of numbers: where the library's contract lies at this program.
-/
import Derived.Shelf.Spec.SlicesInsertGrow
import Derived.Test.YtghfohglnbenaaaDoorProg
namespace Go.Proofs.YtghfohglnbenaaaDoor
def insInt_ren : Go.Shelf.Ren := ⟨fun | 21 => 77 | 27 => 85 | 28 => 86 | 35 => 92 | 39 => 94 | n => n, fun | 22 => 40 | 3 => 3 | 4 => 4 | 0 => 0 | n => n, fun | n => n⟩
theorem insInt : Go.Proofs.Lays2.n21 Tryd.prog insInt_ren := {
  mixed := by kernel_rfl
  f21 := Tryd.func77.trans (congrArg some (by kernel_rfl))
  f27 := Tryd.func85.trans (congrArg some (by kernel_rfl))
  f28 := Tryd.func86.trans (congrArg some (by kernel_rfl))
  f35 := Tryd.func92.trans (congrArg some (by kernel_rfl))
  f39 := Tryd.func94.trans (congrArg some (by kernel_rfl))
  t0 := Tryd.underlying0
  a0 := Tryd.isAgg0
  z0 := Tryd.sizeOf0
  v0 := Tryd.zeroValue0
  t3 := Tryd.underlying3
  a3 := Tryd.isAgg3
  z3 := Tryd.sizeOf3
  v3 := Tryd.zeroValue3
  t4 := Tryd.underlying4
  a4 := Tryd.isAgg4
  z4 := Tryd.sizeOf4
  v4 := Tryd.zeroValue4
  t22 := Tryd.underlying40
  a22 := Tryd.isAgg40
  z22 := Tryd.sizeOf40
  v22 := Tryd.zeroValue40
  i3 := by kernel_rfl }
end Go.Proofs.YtghfohglnbenaaaDoor
