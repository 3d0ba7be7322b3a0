import Derived.Test.YtkcepkehgkkkbabDoorBytes
namespace Go.Proofs.YtkcepkehgkkkbabDoor
open Go.RowKit
set_option linter.unusedVariables false

end Go.Proofs.YtkcepkehgkkkbabDoor

namespace Go.Proofs.YtkcepkehgkkkbabDoor
open Go.RowKit
set_option linter.unusedVariables false

theorem xgroup_cell (m : Nat) : [Value.int .u8 ((m : Int) % 128 + 128)] = cellsB [UInt8.ofNat (m % 128 + 128)] := by
  simp only [cellsB, List.map_cons, List.map_nil, UInt8.toNat_ofNat']
  congr 2
  omega

theorem xlow_cell (m : Nat) (h : m < 128) : [Value.int .u8 (m : Int)] = cellsB [UInt8.ofNat m] := by
  simp only [cellsB, List.map_cons, List.map_nil, UInt8.toNat_ofNat']
  congr 2
  omega

/-- A byte more on a list that was made here. -/
theorem made_grow {w0 w w1 : World} {o : Obj} {v : Value} {n : Nat} {xs : List Value} (hb : Below w0.heap.size w0 w) (h : w.ownsRow w0.heap.size 5 1 v n xs) (hg : (w.alloc o).grownBy w1 v.ownBlock) : Below w0.heap.size w0 w1 :=
  (hb.alloc hb.size _).grown hg (by have := hb.size; simp; omega) (fun k hk => (World.ownsRow.lt h k hk).1)

theorem xfold_neg (n : Int) (h0 : n < 0) : (-(n + 1)) * 2 + 1 = (foldN n : Int) := by
  unfold foldN; rw [if_pos h0]; omega

end Go.Proofs.YtkcepkehgkkkbabDoor
