import Derived.Test.YthjoppgomopkfaaGath2
namespace Go.Proofs.Ythjoppgomopkfaa
open Go.RowKit Go.Shelf
attribute [local go_sem] Oper.semAt_some
set_option linter.unusedVariables false

set_option maxRecDepth 100000 in
set_option maxHeartbeats 4000000 in
theorem gath_zero {w : World} {g b : Nat} {cs : List Comp} (hA : All cs w) :
    Calls Try.prog 32 #[.pointer (some ⟨g, 0, none⟩), .int .i64 (b : Int), .int .i64 0] w fun e w' => e = .returned (.tuple #[.slice none 0 0, .bool true]) ∧ All (entC (.slice none 0 0) [] :: cs) w' := by
  have A6 := (((((hA.addRow0 (e := 39) (size := 7)).addBlk [.int .i64 (b : Int)] 3).addBlk [.int .i64 0] 3).addBlk [.slice none 0 0] 40).addBlk [.bool true] 4).addBlk [.slice none 0 0] 40
  simp only [World.size_alloc] at A6
  have e0 := A6.tail.tail.1.2.1
  have e1 := A6.tail.1.2.1
  have A8 := hid A6
  have E0 := hid e0
  have E1 := hid e1
  clear A6 hA e0 e1
  go_enter Try.func32, Try.ntmps32
  go_wp2
  refine bodyPost_ret (v := .tuple #[.slice none 0 0, .bool true]) (res32 rfl rfl ?_ ?_) rfl ⟨rfl, ?_⟩
  · rw [cell_at E0.out]; rfl
  · rw [cell_at E1.out]; rfl
  · exact A8.out.tail.tail.tail.tail.tail
end Go.Proofs.Ythjoppgomopkfaa
