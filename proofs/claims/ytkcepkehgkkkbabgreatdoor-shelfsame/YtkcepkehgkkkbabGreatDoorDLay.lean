
/- slices.Delete at this program: which number is which. -/
import Derived.Shelf.Slices.Delete
import Derived.Test.YtkcepkehgkkkbabGreatDoorProg
namespace Go.Proofs
open Go.Shelf
def Tryz.lays24_ren : Go.Shelf.Ren := ⟨fun | 24 => 148 | n => n, fun | 24 => 57 | 9 => 9 | 3 => 3 | 4 => 4 | 0 => 0 | n => n, fun | n => n⟩
theorem Tryz.lays24 : Go.Proofs.Lays2.n24 Tryz.prog Tryz.lays24_ren := {
  mixed := by kernel_rfl
  f24 := Tryz.func148.trans (congrArg some (by kernel_rfl))
  t0 := Tryz.underlying0
  a0 := Tryz.isAgg0
  z0 := Tryz.sizeOf0
  v0 := Tryz.zeroValue0
  t3 := Tryz.underlying3
  a3 := Tryz.isAgg3
  z3 := Tryz.sizeOf3
  v3 := Tryz.zeroValue3
  t4 := Tryz.underlying4
  a4 := Tryz.isAgg4
  z4 := Tryz.sizeOf4
  v4 := Tryz.zeroValue4
  t9 := Tryz.underlying9
  a9 := Tryz.isAgg9
  z9 := Tryz.sizeOf9
  v9 := Tryz.zeroValue9
  t24 := Tryz.underlying57
  a24 := Tryz.isAgg57
  z24 := Tryz.sizeOf57
  v24 := Tryz.zeroValue57
  i9 := by kernel_rfl }
end Go.Proofs
