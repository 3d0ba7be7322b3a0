import Derived.Test.YtblojlaifnmimaaGreatDoorJ15
namespace Go.Proofs.YtblojlaifnmimaaGreatDoor
open Go.RowKit
set_option linter.unusedVariables false

theorem perm5 {α : Type} (a b c d e : α) (cs : List α) : (a :: b :: c :: d :: e :: cs).Perm (e :: a :: b :: c :: d :: cs) := by
  refine List.Perm.trans ?_ (List.perm_middle (l₁ := [a, b, c, d]) (a := e) (l₂ := cs))
  exact List.Perm.refl _

end Go.Proofs.YtblojlaifnmimaaGreatDoor
