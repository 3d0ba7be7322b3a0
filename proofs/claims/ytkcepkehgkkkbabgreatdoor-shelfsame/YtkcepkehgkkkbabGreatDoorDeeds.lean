import Derived.Test.YtkcepkehgkkkbabGreatDoorJ6
namespace Go.Proofs.YtkcepkehgkkkbabGreatDoor
open Go.RowKit
set_option linter.unusedVariables false
theorem run_store_func (P : Program) (w : World) (a : Addr) (m : Mode) (f : Fn) (x y : Array Value) : (store a (.func f x y) m).run P w = stored P w a (.func f x y) m := run_store P w a _ m rfl
theorem run_store_nilf (P : Program) (w : World) (a : Addr) (m : Mode) : (store a .nilFunc m).run P w = stored P w a .nilFunc m := run_store P w a _ m rfl
attribute [local go_sem] run_store_func run_store_nilf

abbrev fnV (n : Nat) : Value := .func (.func n) #[] #[]
def deedsA : Array Value := #[.nilFunc, .bool false, fnV 108, .bool false, fnV 109, .bool true, fnV 110, .bool true, fnV 111, .bool true, fnV 112, .bool true, fnV 113, .bool true, fnV 114, .bool true, fnV 115, .bool false]
abbrev deedsV : Value := .agg #[.nilFunc, .bool false, fnV 108, .bool false, fnV 109, .bool true, fnV 110, .bool true, fnV 111, .bool true, fnV 112, .bool true, fnV 113, .bool true, fnV 114, .bool true, fnV 115, .bool false]
theorem Tryz.und138 : Tryz.prog.underlying 138 = some (.array 9 137) := by kernel_rfl
set_option maxRecDepth 1000000 in
theorem deeds_any {w : World} : Calls Tryz.prog 79 #[] w fun e w' => e = .returned deedsV ∧ Below w.heap.size w w' := by
  have hh := heap_alloc_new w (.cells #[.nilFunc, .bool false, fnV 108, .bool false, fnV 109, .bool true, fnV 110, .bool true, fnV 111, .bool true, fnV 112, .bool true, fnV 113, .bool true, fnV 114, .bool true, fnV 115, .bool false] 138)
  have B := hid (ba w (.cells #[.nilFunc, .bool false, fnV 108, .bool false, fnV 109, .bool true, fnV 110, .bool true, fnV 111, .bool true, fnV 112, .bool true, fnV 113, .bool true, fnV 114, .bool true, fnV 115, .bool false] 138))
  go_enter Tryz.func79, Tryz.ntmps79
  go_wp2
  generalize w.alloc _ = W at hh B ⊢
  refine bodyPost_ret (v := deedsV) (results_cell_row (fn := Tryz.f79) rfl _ W w.heap.size 138 #[.nilFunc, .bool false, fnV 108, .bool false, fnV 109, .bool true, fnV 110, .bool true, fnV 111, .bool true, fnV 112, .bool true, fnV 113, .bool true, fnV 114, .bool true, fnV 115, .bool false] (0, 0) _ rfl hh Tryz.und138 rfl (by kernel_rfl)) rfl ?_
  exact ⟨rfl, B.out⟩
end Go.Proofs.YtkcepkehgkkkbabGreatDoor
