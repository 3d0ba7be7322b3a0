import Derived.Test.YtmpbdncgilahkaaShelf
import Derived.Laws.BytesArg
namespace Go.Proofs.Ytmpbdncgilahkaa
open Go.RowKit
set_option linter.unusedVariables false

/-- The three bytes of a number, as a text. -/
def tri (v : Int) : List Int := [v % 256, v / 256 % 256, v / 65536 % 256]
def txt (v : Int) : ByteArray := strOfNums (tri v)

set_option maxRecDepth 1000000 in
theorem text_any {w : World} (v : Int) : Calls Try.prog 41 #[.int .i64 v] w fun e w' => e = .returned (.string (txt v)) ∧ Below w.heap.size w w' := by
  have hh := heap_alloc_new w (.cells #[.int .u8 (v % 256), .int .u8 (v / 256 % 256), .int .u8 (v / 65536 % 256)] 5)
  have hc := run_convert_bytes_arg (P := Try.prog) (w.alloc (.cells #[.int .u8 (v % 256), .int .u8 (v / 256 % 256), .int .u8 (v / 65536 % 256)] 5)) 95 5 Try.underlying95 Try.underlying5 w.heap.size 0 3 3 (tri v) rfl (fun i hi => by
    rw [Nat.zero_add, cell_at hh]
    obtain rfl | rfl | rfl : i = 0 ∨ i = 1 ∨ i = 2 := by omega
    all_goals rfl) 9 Try.underlying9
  have hB := hid (ba w (.cells #[.int .u8 (v % 256), .int .u8 (v / 256 % 256), .int .u8 (v / 65536 % 256)] 5))
  clear hh
  go_enter Try.func41, Try.ntmps41
  go_wp2
  go_ret
  exact ⟨rfl, hB.out⟩
end Go.Proofs.Ytmpbdncgilahkaa
