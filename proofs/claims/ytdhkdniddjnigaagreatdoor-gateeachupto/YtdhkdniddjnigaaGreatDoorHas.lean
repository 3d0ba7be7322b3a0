import Derived.Test.YtdhkdniddjnigaaGreatDoorSLc
import Derived.Test.YtdhkdniddjnigaaGreatDoorSt14
namespace Go.Proofs.YtdhkdniddjnigaaGreatDoor
open Go.RowKit Go.Lib
set_option linter.unusedVariables false

theorem contains_any (s : ByteArray) (r : Int) (w : World) (h0 : 0 ≤ r) (h1 : r < 128) : Calls Tryz.prog 166 #[.string s, .int .i32 r] w fun e w' => e = .returned (.bool (decide (0 ≤ Lib.indexByte s.data.toList r.toNat.toUInt8))) ∧ w' = w :=
  Any.strings_ContainsRune_ascii Tryz.lays151 s r w h0 h1
end Go.Proofs.YtdhkdniddjnigaaGreatDoor
