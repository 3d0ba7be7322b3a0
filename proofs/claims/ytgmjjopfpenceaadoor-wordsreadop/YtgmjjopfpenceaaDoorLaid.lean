import Derived.Test.YtgmjjopfpenceaaDoorNum
import Derived.Test.YtgmjjopfpenceaaDoorCards
import Derived.Test.YtgmjjopfpenceaaDoorTie
import Derived.ProofKit
import Derived.OpenShut
import Derived.SizedLaws
import Derived.Deep.DeepHandedRow
import Derived.Deep.Slices
import Derived.Lib.LaidTab
import Derived.Lib.SmallJoins
import Derived.Stop.LaidErr
namespace Go.Proofs.YtgmjjopfpenceaaDoor
open Go.ChangeShapes Go.WideShapes Go.ChangeAt Go.RowKit Go.Deep Go.Joins
set_option linter.unusedVariables false

theorem Tryd.own : ownKnob Tryd.prog.godebug = none := by kernel_rfl
theorem Tryd.laidOut : laidOutB Tryd.prog = true := by kernel_rfl
theorem Tryd.gES : Tryd.prog.globalNamed "strconv.ErrSyntax" = some 2 := by kernel_rfl
theorem Tryd.gEST : (Tryd.prog.globals[2]?).map (·.type) = some 40 := by kernel_rfl
theorem Tryd.gER : Tryd.prog.globalNamed "strconv.ErrRange" = some 3 := by kernel_rfl
theorem Tryd.gERT : (Tryd.prog.globals[3]?).map (·.type) = some 40 := by kernel_rfl
theorem Tryd.gPW : Tryd.prog.globalNamed "internal/strconv.uint64pow10" = some 4 := by kernel_rfl
theorem Tryd.gPWT : (Tryd.prog.globals[4]?).map (·.type) = some 90 := by kernel_rfl
theorem Tryd.cellsES : Tryd.prog.cellsOf 88 = 1 := by kernel_rfl
theorem Tryd.cells9 : Tryd.prog.cellsOf 9 = 1 := by kernel_rfl
theorem Tryd.star : "*" ++ "errors.errorString" = "*errors.errorString" := by decide
theorem Tryd.rowES (u : TypeId) (h : Tryd.prog.typeName? 3 u = some "*errors.errorString") : u = 86 :=
  typeName_ptr_named (nm := "errors.errorString") (by rw [Tryd.star]; kernel_rfl) (by kernel_rfl) (by decide) u (by rw [Tryd.star]; exact h)

/-- What the head of the rows' list gives. -/
theorem vars_of_laid {x y : String × DataW Unit} {r : List (String × DataW Unit)} {W : World} (h : laidMet Tryd.prog (x :: y :: ("internal/strconv.uint64pow10", Rows.laid_internal_strconv_uint64pow10) :: ("strconv.ErrRange", Rows.laid_strconv_ErrRange) :: ("strconv.ErrSyntax", Rows.laid_strconv_ErrSyntax) :: r) W) : Vars W := by
  have h1 := h.tail.tail
  obtain ⟨a1, s1, v1, _⟩ := laid_sentinel h1.tail Tryd.gER Tryd.gERT Tryd.underlying40 Tryd.rowES Tryd.underlying86 Tryd.underlying88 rfl rfl Tryd.underlying9 Tryd.cellsES Tryd.cells9
  obtain ⟨a2, s2, v2, _⟩ := laid_sentinel h1.tail.tail Tryd.gES Tryd.gEST Tryd.underlying40 Tryd.rowES Tryd.underlying86 Tryd.underlying88 rfl rfl Tryd.underlying9 Tryd.cellsES Tryd.cells9
  exact ⟨⟨_, _, v2⟩, ⟨_, _, v1⟩, Lib.tabIs_of_head (n := 20) (e := 70) Tryd.gPW Tryd.gPWT Tryd.underlying90 Tryd.underlying70 (by kernel_rfl) (by kernel_rfl) h1⟩

def deB32 : List Int := [0, 1, 28, 2, 29, 14, 24, 3, 30, 22, 20, 15, 25, 17, 4, 8, 31, 27, 13, 23, 21, 19, 16, 7, 26, 12, 18, 6, 11, 5, 10, 9]
def deB64 : List Int := [0, 1, 56, 2, 57, 49, 28, 3, 61, 58, 42, 50, 38, 29, 17, 4, 62, 47, 59, 36, 45, 43, 51, 22, 53, 39, 33, 30, 24, 18, 12, 5, 63, 55, 48, 27, 60, 41, 37, 16, 46, 35, 44, 21, 52, 32, 23, 11, 54, 26, 40, 15, 34, 20, 31, 10, 25, 14, 19, 9, 13, 8, 7, 6]
def formN : List Int := [0, 0, 0, 0, 0, 0, 0, 0, 1, 16, 0, 0, 0, 0, 0, 0, 1, 16, 0, 0, 0, 0, 0, 0, 1, 16, 0, 64, 0, 0, 0, 0, 1, 16, 0, 0, 0, 1099511627776, 0, 0, 1, 16, 1, 16, 0, 0, 0, 0, 1, 16, 0, 0, 0, 1099511627776, 1, 8, 1, 16, 0, 0, 0, 0, 0, 0, 0, 0, 0, 0, 0, 0, 0, 0]
def wfN : List (List UInt8 × List UInt8) := [([], []), ([109, 97, 107, 101], [78]), ([100, 114, 111, 112], [78]), ([112, 117, 115, 104], [78, 84]), ([116, 114, 105, 109], [78, 75]), ([116, 97, 107, 101], [78, 84]), ([114, 101, 97, 100], [78, 75, 77]), ([99, 111, 117, 110, 116], [78]), ([108, 105, 115, 116], [])]
noncomputable def low : Nat := (World.holding Tryd.prog default ⟨#[], #[], []⟩).heap.size
/-- A world for the witness. -/
noncomputable def laidWorld (os : Os) : World :=
  let w0 := World.holding Tryd.prog os ⟨#[.cells #[.string ⟨#[105, 110, 118, 97, 108, 105, 100, 32, 115, 121, 110, 116, 97, 120]⟩] 88, .cells #[.string ⟨#[118, 97, 108, 117, 101, 32, 111, 117, 116, 32, 111, 102, 32, 114, 97, 110, 103, 101]⟩] 88], #[], []⟩
  { w0 with heap := (((((((w0.heap.modify 2 fun
      | .cells _ t frozen => .cells #[.iface 86 (.pointer (some ⟨low, 0, none⟩))] t frozen
      | o => o).modify 3 fun
      | .cells _ t frozen => .cells #[.iface 86 (.pointer (some ⟨low + 1, 0, none⟩))] t frozen
      | o => o).modify 4 fun
      | .cells _ t frozen => .cells (Lib.pow10Tab.map fun z : Int => Value.int .u64 z).toArray t frozen
      | o => o).modify 5 fun
      | .cells _ t frozen => .cells (deB32.map fun z : Int => Value.int .u8 z).toArray t frozen
      | o => o).modify 6 fun
      | .cells _ t frozen => .cells (deB64.map fun z : Int => Value.int .u8 z).toArray t frozen
      | o => o).modify 1 fun
      | .cells _ t frozen => .cells (formN.map fun n : Int => Value.int .i64 n).toArray t frozen
      | o => o).modify 0 fun
      | .cells _ t frozen => .cells (wfN.flatMap fun p => [Value.string ⟨p.1.toArray⟩, Value.string ⟨p.2.toArray⟩]).toArray t frozen
      | o => o) }
end Go.Proofs.YtgmjjopfpenceaaDoor
