import Derived.Test.YteloaggebkbeeaaDoorSLay
import Derived.Test.YteloaggebkbeeaaDoorShelf
namespace Go.Proofs.YteloaggebkbeeaaDoor
open Go.RowKit Go.Lib
set_option linter.unusedVariables false

theorem contains_any (s : ByteArray) (r : Int) (w : World) (h0 : 0 ≤ r) (h1 : r < 128) : Calls Tryd.prog 88 #[.string s, .int .i32 r] w fun e w' => e = .returned (.bool (decide (0 ≤ Lib.indexByte s.data.toList r.toNat.toUInt8))) ∧ w' = w :=
  Any.strings_ContainsRune_ascii Tryd.lays151 s r w h0 h1
end Go.Proofs.YteloaggebkbeeaaDoor
