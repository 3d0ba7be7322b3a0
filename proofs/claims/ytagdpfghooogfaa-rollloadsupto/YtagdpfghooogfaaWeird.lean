import Derived.Test.YtagdpfghooogfaaXR3
namespace Go.Proofs.Ytagdpfghooogfaa
open Go.RowKit
set_option linter.unusedVariables false

/-- Bytes that came in: an empty list may lie anywhere. -/
def ReadsW (w : World) (s : Value) (l : List UInt8) : Prop := Reads w s l ∨ (l = [] ∧ ∃ a c, s = .slice (some a) 0 c)

end Go.Proofs.Ytagdpfghooogfaa
