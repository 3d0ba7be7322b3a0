import Derived.Test.YtkcepkehgkkkbaaGreatDoorShelf
namespace Go.Proofs.YtkcepkehgkkkbaaGreatDoor
open Go.RowKit
set_option linter.unusedVariables false
theorem run_store_func (P : Program) (w : World) (a : Addr) (m : Mode) (f : Fn) (x y : Array Value) : (store a (.func f x y) m).run P w = stored P w a (.func f x y) m := run_store P w a _ m rfl
theorem run_store_nilf (P : Program) (w : World) (a : Addr) (m : Mode) : (store a .nilFunc m).run P w = stored P w a .nilFunc m := run_store P w a _ m rfl
attribute [local go_sem] run_store_func run_store_nilf

abbrev fnV (n : Nat) : Value := .func (.func n) #[] #[]
def deedsA : Array Value := #[.nilFunc, .bool false, fnV 132, .bool false, fnV 133, .bool true, fnV 134, .bool true, fnV 135, .bool true, fnV 136, .bool true, fnV 137, .bool true, fnV 138, .bool true, fnV 139, .bool false]
abbrev deedsV : Value := .agg #[.nilFunc, .bool false, fnV 132, .bool false, fnV 133, .bool true, fnV 134, .bool true, fnV 135, .bool true, fnV 136, .bool true, fnV 137, .bool true, fnV 138, .bool true, fnV 139, .bool false]
theorem Tryz.und171 : Tryz.prog.underlying 171 = some (.array 9 170) := by kernel_rfl
set_option maxRecDepth 1000000 in
theorem deeds_any {w : World} : Calls Tryz.prog 116 #[] w fun e w' => e = .returned deedsV ∧ Below w.heap.size w w' := by
  have hh := heap_alloc_new w (.cells #[.nilFunc, .bool false, fnV 132, .bool false, fnV 133, .bool true, fnV 134, .bool true, fnV 135, .bool true, fnV 136, .bool true, fnV 137, .bool true, fnV 138, .bool true, fnV 139, .bool false] 171)
  have B := hid (ba w (.cells #[.nilFunc, .bool false, fnV 132, .bool false, fnV 133, .bool true, fnV 134, .bool true, fnV 135, .bool true, fnV 136, .bool true, fnV 137, .bool true, fnV 138, .bool true, fnV 139, .bool false] 171))
  go_enter Tryz.func116, Tryz.ntmps116
  go_wp2
  generalize w.alloc _ = W at hh B ⊢
  refine bodyPost_ret (v := deedsV) (results_cell_row (fn := Tryz.f116) rfl _ W w.heap.size 171 #[.nilFunc, .bool false, fnV 132, .bool false, fnV 133, .bool true, fnV 134, .bool true, fnV 135, .bool true, fnV 136, .bool true, fnV 137, .bool true, fnV 138, .bool true, fnV 139, .bool false] (0, 0) _ rfl hh Tryz.und171 rfl (by kernel_rfl)) rfl ?_
  exact ⟨rfl, B.out⟩
end Go.Proofs.YtkcepkehgkkkbaaGreatDoor
