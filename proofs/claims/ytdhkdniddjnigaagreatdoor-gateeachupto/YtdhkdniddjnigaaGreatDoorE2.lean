import Derived.Test.YtdhkdniddjnigaaGreatDoorE1
namespace Go.Proofs.YtdhkdniddjnigaaGreatDoor
open Go.RowKit
set_option linter.unusedVariables false

/-- A word's code. -/
def codeW (x : List UInt8) : Option Nat := findW x 0 cdN
def codeA (x : List UInt8) : Value := .tuple #[.int .i64 (((codeW x).getD 0 : Nat) : Int), .bool (codeW x).isSome]

/-- What numberAt answers. -/
def natA (l : Ws) (p : Nat) : Value := if l.length ≤ p then .tuple #[.int .i64 0, .int .i64 162] else match numW (l.getD p []) with
  | none => .tuple #[.int .i64 0, .int .i64 163]
  | some n => .tuple #[.int .i64 (n : Int), .int .i64 0]

end Go.Proofs.YtdhkdniddjnigaaGreatDoor
