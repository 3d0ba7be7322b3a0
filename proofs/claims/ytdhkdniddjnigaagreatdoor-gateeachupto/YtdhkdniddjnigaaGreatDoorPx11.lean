import Derived.Test.YtdhkdniddjnigaaGreatDoorPx10
namespace Go.Proofs.YtdhkdniddjnigaaGreatDoor
open Go.RowKit
set_option linter.unusedVariables false

def Px.reply (x : Px) (m : Ms) : Px := { x with rq := x.rq.ended, view := max x.view m.v, seen := max x.seen m.n }

end Go.Proofs.YtdhkdniddjnigaaGreatDoor
