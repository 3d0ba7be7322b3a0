
/- slices.Delete at this program: which number is which. -/
import Derived.Shelf.Slices.Delete
import Derived.Test.YtkcepkehgkkkbabDoorProg
namespace Go.Proofs
open Go.Shelf
def Tryd.lays24_ren : Go.Shelf.Ren := ⟨fun | 24 => 59 | n => n, fun | 24 => 28 | 9 => 9 | 3 => 3 | 4 => 4 | 0 => 0 | n => n, fun | n => n⟩
theorem Tryd.lays24 : Go.Proofs.Lays2.n24 Tryd.prog Tryd.lays24_ren := {
  mixed := by kernel_rfl
  f24 := Tryd.func59.trans (congrArg some (by kernel_rfl))
  t0 := Tryd.underlying0
  a0 := Tryd.isAgg0
  z0 := Tryd.sizeOf0
  v0 := Tryd.zeroValue0
  t3 := Tryd.underlying3
  a3 := Tryd.isAgg3
  z3 := Tryd.sizeOf3
  v3 := Tryd.zeroValue3
  t4 := Tryd.underlying4
  a4 := Tryd.isAgg4
  z4 := Tryd.sizeOf4
  v4 := Tryd.zeroValue4
  t9 := Tryd.underlying9
  a9 := Tryd.isAgg9
  z9 := Tryd.sizeOf9
  v9 := Tryd.zeroValue9
  t24 := Tryd.underlying28
  a24 := Tryd.isAgg28
  z24 := Tryd.sizeOf28
  v24 := Tryd.zeroValue28
  i9 := by kernel_rfl }
end Go.Proofs
