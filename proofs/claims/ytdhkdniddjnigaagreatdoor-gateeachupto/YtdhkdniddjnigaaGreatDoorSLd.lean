import Derived.Shelf.Bytes.SlCut
import Derived.Test.YtdhkdniddjnigaaGreatDoorProg
/-
  DERIVED: THE SHELF's CONTRACTS AT THIS DUMP, IN PLAIN WORDS (tools/lay-plain.mjs out of 'ScrCut.lean', which tools/lay-shelf.mjs wrote): THE SAME DECLARATIONS UNDER THE SAME NAMES: 'import', 'namespace', 'open', 'def', 'theorem' AND NOTHING ELSE: no command of the shelf's: FOR A HAND-IN. Each laying: the table of numbers ('.._ren') and one theorem, a field a fact of the dump's own or the kernel's comparison; each contract: ONE APPLICATION.
-/
namespace Go.Proofs
open Go.Shelf
def Tryz.laysT4_ren : Go.Shelf.Ren := ⟨fun | 4 => 31 | 5 => 52 | 6 => 81 | 7 => 82 | 8 => 83 | 9 => 84 | 10 => 85 | 11 => 119 | 12 => 120 | n => n, fun | 22 => 40 | 4 => 4 | 3 => 3 | 0 => 0 | 5 => 5 | 29 => 157 | 9 => 9 | 31 => 180 | 30 => 179 | n => n, fun | 0 => 0 | n => n⟩
theorem Tryz.laysT4 : Go.Proofs.SlLaysT.n4 Tryz.prog Tryz.laysT4_ren := {
  mixed := by kernel_rfl
  f4 := Tryz.func31.trans (congrArg some (by kernel_rfl))
  f5 := Tryz.func52.trans (congrArg some (by kernel_rfl))
  f6 := Tryz.func81.trans (congrArg some (by kernel_rfl))
  f7 := Tryz.func82.trans (congrArg some (by kernel_rfl))
  f8 := Tryz.func83.trans (congrArg some (by kernel_rfl))
  f9 := Tryz.func84.trans (congrArg some (by kernel_rfl))
  f10 := Tryz.func85.trans (congrArg some (by kernel_rfl))
  f11 := Tryz.func119.trans (congrArg some (by kernel_rfl))
  f12 := Tryz.func120.trans (congrArg some (by kernel_rfl))
  t0 := Tryz.underlying0
  a0 := Tryz.isAgg0
  z0 := Tryz.sizeOf0
  v0 := Tryz.zeroValue0
  t3 := Tryz.underlying3
  a3 := Tryz.isAgg3
  z3 := Tryz.sizeOf3
  v3 := Tryz.zeroValue3
  t4 := Tryz.underlying4
  a4 := Tryz.isAgg4
  z4 := Tryz.sizeOf4
  v4 := Tryz.zeroValue4
  t5 := Tryz.underlying5
  a5 := Tryz.isAgg5
  z5 := Tryz.sizeOf5
  v5 := Tryz.zeroValue5
  t9 := Tryz.underlying9
  a9 := Tryz.isAgg9
  z9 := Tryz.sizeOf9
  v9 := Tryz.zeroValue9
  t22 := Tryz.underlying40
  a22 := Tryz.isAgg40
  z22 := Tryz.sizeOf40
  v22 := Tryz.zeroValue40
  t29 := Tryz.underlying157
  a29 := Tryz.isAgg157
  z29 := Tryz.sizeOf157
  v29 := Tryz.zeroValue157
  t30 := Tryz.underlying179
  a30 := Tryz.isAgg179
  z30 := Tryz.sizeOf179
  v30 := Tryz.zeroValue179
  t31 := Tryz.underlying180
  a31 := Tryz.isAgg180
  z31 := Tryz.sizeOf180
  v31 := Tryz.zeroValue180
  g0 := by kernel_rfl }
end Go.Proofs
