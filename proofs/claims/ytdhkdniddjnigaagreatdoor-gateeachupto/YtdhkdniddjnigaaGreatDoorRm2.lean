import Derived.Test.YtdhkdniddjnigaaGreatDoorMail24
namespace Go.Proofs.YtdhkdniddjnigaaGreatDoor
open Go.RowKit
set_option linter.unusedVariables false

/-- Are the numbers in their bounds? -/
def Ms.numB (m : Ms) (k : Nat) : Bool := (!inK k 75 || inR m.n (lstK (k : Int)) 1099511627776) && ((!inK k 67 || inR m.c 0 1099511627776) && ((!inK k 78 || inR m.o 0 m.v) && ((!inK k 76 || inR m.l 1 1099511627776) && (!inK k 81 || inR m.q 1 1099511627776))))
/-- May all else be? -/
def Ms.bodB (m : Ms) (k : Nat) (li : List ByteArray) (le : List Ent) (ls : List Sh) (lx : List Ent) : Bool := (!inK k 79 || m.oB) && ((!inK k 82 || chkX m.rc m.rn li == 0) && ((!inK k 69 || m.eB le) && (!inH k m.h 71 || cgB m.cf m.cb ls lx)))
end Go.Proofs.YtdhkdniddjnigaaGreatDoor
