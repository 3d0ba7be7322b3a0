import Derived.Test.YthnccpbgccmapabDoorSmall
import Derived.Laws.Rows
import Derived.Laws.CopyOwn
namespace Go.Proofs.YthnccpbgccmapabDoor
open Go.RowKit
set_option linter.unusedVariables false

/-- What cut answers. -/
def CutR (g p size : Nat) (w : World) (e : Ending) (w' : World) : Prop := ∃ a, e = .returned (.agg #[.slice (some a) size size, .slice (some ⟨g, p + size, none⟩) 4 4]) ∧ (0 < size → a = ⟨g, p, none⟩) ∧ Below w.heap.size w w'

theorem cut_below (w : World) (o : Obj) : Below w.heap.size w (w.alloc o).drew := (((Below.refl _ _).alloc (Nat.le_refl _) _)).drew

set_option maxHeartbeats 1600000 in
set_option maxRecDepth 1000000 in
theorem cut_any {w : World} (g o n c at_ size : Nat) (hn : at_ + size + 4 ≤ n) (hc : n ≤ c) (hlen : n ≤ 140737488355328) :
    Calls Tryd.prog 28 #[.slice (some ⟨g, o, none⟩) n c, .int .i64 (at_ : Int), .int .i64 (size : Int)] w (CutR g (o + at_) size w) := by
  have hres : Tryd.f28.results = #[.cell 6 62] := by kernel_rfl
  by_cases h0 : size = 0
  · subst h0
    go_enter Tryd.func28, Tryd.ntmps28
    go_wp2
    go_region
    go_wp2
    refine bodyPost_ret (v := .agg #[.slice (some ⟨g, o, none⟩) 0 0, .slice (some ⟨g, o + at_, none⟩) 4 4]) ?_ rfl ⟨_, rfl, fun h => by omega, cut_below _ _⟩
    simp only [results, hres]
    go_simp
  · have h1 : ¬ at_ + size = at_ := by omega
    go_enter Tryd.func28, Tryd.ntmps28
    go_wp2
    go_region
    go_wp2
    refine bodyPost_ret (v := .agg #[.slice (some ⟨g, o + at_, none⟩) size size, .slice (some ⟨g, o + at_ + size, none⟩) 4 4]) ?_ rfl ⟨_, rfl, fun _ => rfl, cut_below _ _⟩
    simp only [results, hres]
    go_simp
end Go.Proofs.YthnccpbgccmapabDoor
