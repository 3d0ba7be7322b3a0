import Derived.Test.YtdhkdniddjnigaaGreatDoorD2
namespace Go.Proofs.YtdhkdniddjnigaaGreatDoor
open Go.RowKit
set_option linter.unusedVariables false

theorem All.del {c d : Comp} {cs : List Comp} {w : World} (h : All (c :: d :: cs) w) : All (c :: cs) w := h.swap.tail
def WRPost (ws : Ws) (x : Int) (cs : List Comp) (en : Ending) (w' : World) : Prop :=
  ∃ v, en = .returned (.tuple #[v, .int .i64 x]) ∧ All (ownC 9 v (txW ws) :: cs) w'
theorem rt_nil (w : World) : Rt w (.slice none 0 0) [] := ⟨none, 0, rfl, Nat.le_refl _, Or.inl rfl⟩
theorem row2 {x : List UInt8} {v : Value} {l : Ws} {cs : List Comp} {w : World} (A : All cs w) (h : Rt w v l) (hl : l.length ≤ 1000) :
    Calls Tryz.prog 99 #[.string ⟨x.toArray⟩, v] w fun e w' => ∃ v', e = .returned v' ∧ All (ownC 9 v' (txW (x :: l)) :: cs) w' :=
  Calls.mono (row_any A h (by omega)) fun e w' ⟨ao, c, he, hA⟩ => ⟨_, he, hA⟩
theorem itoa_nat (n : Nat) : Lib.itoa (n : Int) = Lib.decDigits n := by
  unfold Lib.itoa
  rw [if_neg (by omega)]
  congr 1

end Go.Proofs.YtdhkdniddjnigaaGreatDoor
