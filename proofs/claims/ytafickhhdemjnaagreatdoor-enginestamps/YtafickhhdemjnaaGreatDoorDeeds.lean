import Derived.Test.YtafickhhdemjnaaGreatDoorJ3
namespace Go.Proofs.YtafickhhdemjnaaGreatDoor
open Go.RowKit
set_option linter.unusedVariables false
theorem run_store_func (P : Program) (w : World) (a : Addr) (m : Mode) (f : Fn) (x y : Array Value) : (store a (.func f x y) m).run P w = stored P w a (.func f x y) m := run_store P w a _ m rfl
theorem run_store_nilf (P : Program) (w : World) (a : Addr) (m : Mode) : (store a .nilFunc m).run P w = stored P w a .nilFunc m := run_store P w a _ m rfl
attribute [local go_sem] run_store_func run_store_nilf

abbrev fnV (n : Nat) : Value := .func (.func n) #[] #[]
def deedsA : Array Value := #[.nilFunc, .bool false, fnV 149, .bool false, fnV 150, .bool true, fnV 151, .bool true, fnV 152, .bool true, fnV 153, .bool true, fnV 154, .bool true, fnV 155, .bool true, fnV 156, .bool false]
abbrev deedsV : Value := .agg #[.nilFunc, .bool false, fnV 149, .bool false, fnV 150, .bool true, fnV 151, .bool true, fnV 152, .bool true, fnV 153, .bool true, fnV 154, .bool true, fnV 155, .bool true, fnV 156, .bool false]
theorem Tryz.und195 : Tryz.prog.underlying 195 = some (.array 9 194) := by kernel_rfl
set_option maxRecDepth 1000000 in
theorem deeds_any {w : World} : Calls Tryz.prog 118 #[] w fun e w' => e = .returned deedsV ∧ Below w.heap.size w w' := by
  have hh := heap_alloc_new w (.cells #[.nilFunc, .bool false, fnV 149, .bool false, fnV 150, .bool true, fnV 151, .bool true, fnV 152, .bool true, fnV 153, .bool true, fnV 154, .bool true, fnV 155, .bool true, fnV 156, .bool false] 195)
  have B := hid (ba w (.cells #[.nilFunc, .bool false, fnV 149, .bool false, fnV 150, .bool true, fnV 151, .bool true, fnV 152, .bool true, fnV 153, .bool true, fnV 154, .bool true, fnV 155, .bool true, fnV 156, .bool false] 195))
  go_enter Tryz.func118, Tryz.ntmps118
  go_wp2
  generalize w.alloc _ = W at hh B ⊢
  refine bodyPost_ret (v := deedsV) (results_cell_row (fn := Tryz.f118) rfl _ W w.heap.size 195 #[.nilFunc, .bool false, fnV 149, .bool false, fnV 150, .bool true, fnV 151, .bool true, fnV 152, .bool true, fnV 153, .bool true, fnV 154, .bool true, fnV 155, .bool true, fnV 156, .bool false] (0, 0) _ rfl hh Tryz.und195 rfl (by kernel_rfl)) rfl ?_
  exact ⟨rfl, B.out⟩
end Go.Proofs.YtafickhhdemjnaaGreatDoor
