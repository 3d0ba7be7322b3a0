import Derived.Test.YthnccpbgccmapabDoorShown
namespace Go.Proofs.YthnccpbgccmapabDoor
open Go.RowKit
set_option linter.unusedVariables false

theorem owns_some {w : World} {base : Nat} {v : Value} {n : Nat} {xs : List Value} (h : w.ownsRow base 5 1 v n xs) (hn : 0 < n) : ∃ g cap, v = .slice (some ⟨g, 0, none⟩) n cap ∧ n ≤ cap ∧ base ≤ g ∧ g < w.heap.size := by
  rcases h.2 with ⟨_, e⟩ | ⟨g, cap, cur, rfl, hg, hgg, hc, _⟩
  · omega
  · exact ⟨g, cap, rfl, hc, hg, (Array.getElem?_eq_some_iff.1 hgg).1⟩

theorem behind_take (l : List UInt8) : (behind l 8).take l.length = l := by simp [behind]

/-- The list that is handed in. -/
theorem Reads.front {w : World} {g n c : Nat} {l : List UInt8} (h : Reads w (.slice (some ⟨g, 0, none⟩) n c) (behind l 8)) : Reads w (.slice (some ⟨g, 0, none⟩) l.length c) l := by
  have hc := h.cap
  rw [behind_len] at hc
  have := h.sub 0 l.length c (by rw [behind_len]; omega) (by omega)
  rw [List.drop_zero, behind_take] at this
  simpa using this

end Go.Proofs.YthnccpbgccmapabDoor
