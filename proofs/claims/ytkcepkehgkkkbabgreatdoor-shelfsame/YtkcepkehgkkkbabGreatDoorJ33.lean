import Derived.Test.YtkcepkehgkkkbabGreatDoorJ21
namespace Go.Proofs.YtkcepkehgkkkbabGreatDoor
set_option linter.unusedVariables false

end Go.Proofs.YtkcepkehgkkkbabGreatDoor

namespace Go.Proofs.YtkcepkehgkkkbabGreatDoor
open Go.RowKit
set_option linter.unusedVariables false

end Go.Proofs.YtkcepkehgkkkbabGreatDoor

namespace Go.Proofs.YtkcepkehgkkkbabGreatDoor
open Go.RowKit
set_option linter.unusedVariables false

end Go.Proofs.YtkcepkehgkkkbabGreatDoor
