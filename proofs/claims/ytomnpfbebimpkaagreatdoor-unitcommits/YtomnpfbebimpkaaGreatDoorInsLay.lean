/-
  slices.Insert of numbers: where the library's contract lies at this program.
-/
import Derived.Shelf.Spec.SlicesInsertGrow
import Derived.Test.YtomnpfbebimpkaaGreatDoorProg
namespace Go.Proofs.YtomnpfbebimpkaaGreatDoor
def insInt_ren : Go.Shelf.Ren := ⟨fun | 21 => 154 | 27 => 159 | 28 => 160 | 35 => 162 | 39 => 163 | n => n, fun | 22 => 48 | 3 => 3 | 4 => 4 | 0 => 0 | n => n, fun | n => n⟩
theorem insInt : Go.Proofs.Lays2.n21 Tryz.prog insInt_ren := {
  mixed := by kernel_rfl
  f21 := Tryz.func154.trans (congrArg some (by kernel_rfl))
  f27 := Tryz.func159.trans (congrArg some (by kernel_rfl))
  f28 := Tryz.func160.trans (congrArg some (by kernel_rfl))
  f35 := Tryz.func162.trans (congrArg some (by kernel_rfl))
  f39 := Tryz.func163.trans (congrArg some (by kernel_rfl))
  t0 := Tryz.underlying0
  a0 := Tryz.isAgg0
  z0 := Tryz.sizeOf0
  v0 := Tryz.zeroValue0
  t3 := Tryz.underlying3
  a3 := Tryz.isAgg3
  z3 := Tryz.sizeOf3
  v3 := Tryz.zeroValue3
  t4 := Tryz.underlying4
  a4 := Tryz.isAgg4
  z4 := Tryz.sizeOf4
  v4 := Tryz.zeroValue4
  t22 := Tryz.underlying48
  a22 := Tryz.isAgg48
  z22 := Tryz.sizeOf48
  v22 := Tryz.zeroValue48
  i3 := by kernel_rfl }
end Go.Proofs.YtomnpfbebimpkaaGreatDoor
