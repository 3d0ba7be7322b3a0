import Derived.Test.YtkcepkehgkkkbaaDoorShelf
namespace Go.Proofs.YtkcepkehgkkkbaaDoor
open Go.RowKit
set_option linter.unusedVariables false
theorem run_store_func (P : Program) (w : World) (a : Addr) (m : Mode) (f : Fn) (x y : Array Value) : (store a (.func f x y) m).run P w = stored P w a (.func f x y) m := run_store P w a _ m rfl
theorem run_store_nilf (P : Program) (w : World) (a : Addr) (m : Mode) : (store a .nilFunc m).run P w = stored P w a .nilFunc m := run_store P w a _ m rfl
attribute [local go_sem] run_store_func run_store_nilf

abbrev fnV (n : Nat) : Value := .func (.func n) #[] #[]
def deedsA : Array Value := #[.nilFunc, .bool false, fnV 67, .bool false, fnV 68, .bool true, fnV 69, .bool true, fnV 70, .bool true, fnV 71, .bool true, fnV 72, .bool true, fnV 73, .bool true, fnV 74, .bool false]
abbrev deedsV : Value := .agg #[.nilFunc, .bool false, fnV 67, .bool false, fnV 68, .bool true, fnV 69, .bool true, fnV 70, .bool true, fnV 71, .bool true, fnV 72, .bool true, fnV 73, .bool true, fnV 74, .bool false]
theorem Tryd.und105 : Tryd.prog.underlying 105 = some (.array 9 104) := by kernel_rfl
set_option maxRecDepth 1000000 in
theorem deeds_any {w : World} : Calls Tryd.prog 63 #[] w fun e w' => e = .returned deedsV ∧ Below w.heap.size w w' := by
  have hh := heap_alloc_new w (.cells #[.nilFunc, .bool false, fnV 67, .bool false, fnV 68, .bool true, fnV 69, .bool true, fnV 70, .bool true, fnV 71, .bool true, fnV 72, .bool true, fnV 73, .bool true, fnV 74, .bool false] 105)
  have B := hid (ba w (.cells #[.nilFunc, .bool false, fnV 67, .bool false, fnV 68, .bool true, fnV 69, .bool true, fnV 70, .bool true, fnV 71, .bool true, fnV 72, .bool true, fnV 73, .bool true, fnV 74, .bool false] 105))
  go_enter Tryd.func63, Tryd.ntmps63
  go_wp2
  generalize w.alloc _ = W at hh B ⊢
  refine bodyPost_ret (v := deedsV) (results_cell_row (fn := Tryd.f63) rfl _ W w.heap.size 105 #[.nilFunc, .bool false, fnV 67, .bool false, fnV 68, .bool true, fnV 69, .bool true, fnV 70, .bool true, fnV 71, .bool true, fnV 72, .bool true, fnV 73, .bool true, fnV 74, .bool false] (0, 0) _ rfl hh Tryd.und105 rfl (by kernel_rfl)) rfl ?_
  exact ⟨rfl, B.out⟩
end Go.Proofs.YtkcepkehgkkkbaaDoor
