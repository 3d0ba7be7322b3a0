import Derived.Test.YtdhkdniddjnigaaGreatDoorMail4
import Derived.Lib.OthersKept
import Derived.WalkSmall
namespace Go.Proofs.YtdhkdniddjnigaaGreatDoor
open Go.RowKit Go.Lib
set_option linter.unusedVariables false

theorem iterAt_below {w wr : World} {s : ByteArray} {k p : Nat} (h : Below w.heap.size w wr) (hk : w.heap.size ≤ k) : Below w.heap.size w (wr.iterAt k s p) := by
  refine ⟨h.os, h.tape, h.output, ?_, fun i hi => ?_⟩
  · have := h.size
    simpa [World.iterAt] using this
  · rw [← h.block i hi]
    simp only [World.iterAt]
    rw [Array.getElem?_setIfInBounds_ne (by omega)]
def allF : ByteArray := ⟨#[86, 75, 67, 78, 76, 81, 72, 79, 82, 69, 71]⟩
theorem fld_ascii (k : Nat) (r : UInt8) (h : r ∈ fldN.getD k []) : r.toNat < 128 := by
  have key : ∀ l ∈ fldN, ∀ r ∈ l, r.toNat < 128 := by decide
  by_cases hk : k < fldN.length
  · rw [List.getD, List.getElem?_eq_getElem hk] at h
    exact key _ (List.getElem_mem hk) r h
  · rw [List.getD, List.getElem?_eq_none (by omega)] at h
    cases h
theorem all_ascii (i : Nat) (h : i < allF.size) : (allF[i]'h).toNat < 128 ∧ allF[i]'h ∈ allF.data.toList := by
  have hm : allF[i]'h ∈ allF.data.toList := by
    simp only [Array.mem_toList_iff]
    exact Array.getElem_mem _
  have key : ∀ r ∈ allF.data.toList, r.toNat < 128 := by decide
  exact ⟨key _ hm, hm⟩
def inH (k : Nat) (h : Bool) (r : Nat) : Bool := inK k r && (decide (r ≠ 71) || (decide ((k : Int) ≠ 11) || h))
end Go.Proofs.YtdhkdniddjnigaaGreatDoor
