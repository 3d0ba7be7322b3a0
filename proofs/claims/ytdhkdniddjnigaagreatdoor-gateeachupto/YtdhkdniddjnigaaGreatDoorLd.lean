import Derived.Test.YtdhkdniddjnigaaGreatDoorGf
import Derived.Shelf.Vars
import Derived.Test.YtdhkdniddjnigaaGreatDoorCards
import Derived.Test.YtdhkdniddjnigaaGreatDoorTie
import Derived.ProofKit
import Derived.OpenShut
import Derived.SizedLaws
import Derived.Deep.DeepHandedRow
import Derived.Deep.Slices
import Derived.Lib.LaidTab
import Derived.Lib.SmallJoins
import Derived.Stop.LaidErr
import Derived.Deep.Strs
namespace Go.Proofs.YtdhkdniddjnigaaGreatDoor
open Go.ChangeShapes Go.WideShapes Go.ChangeAt Go.RowKit Go.Deep Go.Joins
set_option linter.unusedVariables false

theorem Tryz.own : ownKnob Tryz.prog.godebug = none := by kernel_rfl
theorem Tryz.laidOut : laidOutB Tryz.prog = true := by kernel_rfl
theorem Tryz.gES : Tryz.prog.globalNamed "strconv.ErrSyntax" = some 8 := by kernel_rfl
theorem Tryz.gEST : (Tryz.prog.globals[8]?).map (·.type) = some 190 := by kernel_rfl
theorem Tryz.gER : Tryz.prog.globalNamed "strconv.ErrRange" = some 9 := by kernel_rfl
theorem Tryz.gERT : (Tryz.prog.globals[9]?).map (·.type) = some 190 := by kernel_rfl
theorem Tryz.gPW : Tryz.prog.globalNamed "internal/strconv.uint64pow10" = some 4 := by kernel_rfl
theorem Tryz.gPWT : (Tryz.prog.globals[4]?).map (·.type) = some 248 := by kernel_rfl
theorem Tryz.cellsES : Tryz.prog.cellsOf 279 = 1 := by kernel_rfl
theorem Tryz.cells9 : Tryz.prog.cellsOf 9 = 1 := by kernel_rfl
theorem Tryz.star : "*" ++ "errors.errorString" = "*errors.errorString" := by decide
theorem Tryz.rowES (u : TypeId) (h : Tryz.prog.typeName? 3 u = some "*errors.errorString") : u = 277 :=
  typeName_ptr_named (nm := "errors.errorString") (by rw [Tryz.star]; kernel_rfl) (by kernel_rfl) (by decide) u (by rw [Tryz.star]; exact h)

/-- What the rows' list gives. -/
theorem vars_of_laid {a b : String × DataW Unit} {r : List (String × DataW Unit)} {W : World} (h : laidMet Tryz.prog (a :: b :: ("internal/strconv.uint64pow10", Rows.laid_internal_strconv_uint64pow10) :: ("strconv.ErrRange", Rows.laid_strconv_ErrRange) :: ("strconv.ErrSyntax", Rows.laid_strconv_ErrSyntax) :: r) W) : Vars W := by
  have h1 := h.tail.tail
  obtain ⟨a1, s1, v1, _⟩ := laid_sentinel h1.tail Tryz.gER Tryz.gERT Tryz.underlying190 Tryz.rowES Tryz.underlying277 Tryz.underlying279 rfl rfl Tryz.underlying9 Tryz.cellsES Tryz.cells9
  obtain ⟨a2, s2, v2, _⟩ := laid_sentinel h1.tail.tail Tryz.gES Tryz.gEST Tryz.underlying190 Tryz.rowES Tryz.underlying277 Tryz.underlying279 rfl rfl Tryz.underlying9 Tryz.cellsES Tryz.cells9
  exact ⟨⟨_, _, v2⟩, ⟨_, _, v1⟩, Lib.tabIs_of_head (n := 20) (e := 222) Tryz.gPW Tryz.gPWT Tryz.underlying248 Tryz.underlying222 (by kernel_rfl) (by kernel_rfl) h1⟩

def deB32 : List Int := [0, 1, 28, 2, 29, 14, 24, 3, 30, 22, 20, 15, 25, 17, 4, 8, 31, 27, 13, 23, 21, 19, 16, 7, 26, 12, 18, 6, 11, 5, 10, 9]
def deB64 : List Int := [0, 1, 56, 2, 57, 49, 28, 3, 61, 58, 42, 50, 38, 29, 17, 4, 62, 47, 59, 36, 45, 43, 51, 22, 53, 39, 33, 30, 24, 18, 12, 5, 63, 55, 48, 27, 60, 41, 37, 16, 46, 35, 44, 21, 52, 32, 23, 11, 54, 26, 40, 15, 34, 20, 31, 10, 25, 14, 19, 9, 13, 8, 7, 6]
noncomputable def low : Nat := (World.holding Tryz.prog default ⟨#[], #[], []⟩).heap.size
/-- A world for the witness. -/
noncomputable def laidWorld (os : Os) : World :=
  let w0 := World.holding Tryz.prog os ⟨#[.cells #[.string ⟨#[105, 110, 118, 97, 108, 105, 100, 32, 115, 121, 110, 116, 97, 120]⟩] 279, .cells #[.string ⟨#[118, 97, 108, 117, 101, 32, 111, 117, 116, 32, 111, 102, 32, 114, 97, 110, 103, 101]⟩] 279], #[], []⟩
  { w0 with heap := (((((((w0.heap.modify 8 fun
      | .cells _ t frozen => .cells #[.iface 277 (.pointer (some ⟨low, 0, none⟩))] t frozen
      | o => o).modify 9 fun
      | .cells _ t frozen => .cells #[.iface 277 (.pointer (some ⟨low + 1, 0, none⟩))] t frozen
      | o => o).modify 4 fun
      | .cells _ t frozen => .cells (Lib.pow10Tab.map fun z : Int => Value.int .u64 z).toArray t frozen
      | o => o).modify 6 fun
      | .cells _ t frozen => .cells (deB32.map fun z : Int => Value.int .u8 z).toArray t frozen
      | o => o).modify 7 fun
      | .cells _ t frozen => .cells (deB64.map fun z : Int => Value.int .u8 z).toArray t frozen
      | o => o).modify 3 fun
      | .cells _ t frozen => .cells (formN.map fun n : Int => Value.int .i64 n).toArray t frozen
      | o => o).modify 5 fun
      | .cells _ t frozen => .cells (wfN.flatMap fun p => [Value.string ⟨p.1.toArray⟩, Value.string ⟨p.2.toArray⟩]).toArray t frozen
      | o => o) }
end Go.Proofs.YtdhkdniddjnigaaGreatDoor
