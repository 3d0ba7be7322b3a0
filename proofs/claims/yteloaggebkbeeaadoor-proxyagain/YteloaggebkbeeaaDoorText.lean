import Derived.Test.YteloaggebkbeeaaDoorWriter
namespace Go.Proofs.YteloaggebkbeeaaDoor
open Go.RowKit
set_option linter.unusedVariables false

theorem Reads.ofString (w : World) (s : ByteArray) (cap : Nat) (fr : Nat × Nat) (hc : s.size ≤ cap) : Reads (w.alloc (.cells (bytesRow s cap) 5 fr)).drew (.slice (some ⟨w.heap.size, 0, none⟩) s.size cap) s.data.toList := by
  refine ⟨_, _, rfl, hc, Or.inr ⟨_, _, rfl, by show w.heap.size < (w.alloc _).heap.size; simp, ?_⟩⟩
  intro j u hu
  have hj : j < s.data.size := by
    have := (List.getElem?_eq_some_iff.1 hu).1
    simpa [cellsB] using this
  show (w.alloc _).cell? _ = _
  rw [cell_at (heap_alloc_new w _), Nat.zero_add, bytesRow_at s cap j hj]
  rw [← hu]
  simp only [cellsB, List.getElem?_map, Array.getElem?_toList, Array.getElem?_eq_getElem hj]
  rfl

/-- A slice that is owned: its shape. -/
theorem owns_form {w : World} {base : Nat} {e : TypeId} {size : Nat} {v : Value} {n : Nat} {xs : List Value} (h : w.ownsRow base e size v n xs) : ∃ ao cap, v = .slice ao n cap := by
  rcases h.2 with ⟨rfl, e⟩ | ⟨g, cap, _, rfl, _⟩
  · exact ⟨none, 0, by rw [e]⟩
  · exact ⟨_, cap, rfl⟩

end Go.Proofs.YteloaggebkbeeaaDoor
