import Derived.Test.YteloaggebkbeeaaDoorReader
namespace Go.Proofs.YteloaggebkbeeaaDoor
open Go.RowKit
set_option linter.unusedVariables false

theorem Reads.cut {w : World} {ao : Option Addr} {c size : Nat} {rs : List UInt8} (h : Reads w (.slice ao rs.length c) rs) (hs : size ≤ rs.length) :
    Reads w (.slice (if c = size then ao else ao.map (·.add size)) (rs.length - size) (c - size)) (rs.drop size) ∧ ∀ k, Value.ownBlock (.slice (if c = size then ao else ao.map (·.add size)) (rs.length - size) (c - size)) = some k → Value.ownBlock (.slice ao rs.length c) = some k := by
  obtain ⟨ao', c', e, hc, hcase⟩ := h
  simp only [Value.slice.injEq] at e
  obtain ⟨rfl, _, rfl⟩ := e
  have hl : rs.length - size = (rs.drop size).length := by simp
  rw [hl]
  rcases hcase with ⟨rfl, rfl, rfl⟩ | ⟨g, o, rfl, hg, hcell⟩
  · have : size = 0 := by simpa using hs
    subst this
    exact ⟨⟨none, 0, by simp, by simp, Or.inl ⟨rfl, by simp, rfl⟩⟩, fun k hk => by simpa using hk⟩
  · by_cases hcs : c = size
    · rw [if_pos hcs]
      refine ⟨⟨_, _, rfl, by simp; omega, Or.inr ⟨g, o, rfl, hg, fun j u hu => ?_⟩⟩, fun k hk => by simpa [Value.ownBlock] using hk⟩
      have : rs.drop size = [] := List.drop_eq_nil_of_le (by omega)
      rw [this] at hu
      simp [cellsB] at hu
    · rw [if_neg hcs]
      refine ⟨⟨_, _, rfl, by simp; omega, Or.inr ⟨g, o + size, by simp [Addr.add_lit], hg, fun j u hu => ?_⟩⟩, fun k hk => by simpa [Value.ownBlock, Addr.add_lit] using hk⟩
      have := hcell (size + j) u (by rw [← hu]; simp [cellsB])
      rw [Nat.add_assoc]
      exact this

theorem hid {p : Prop} (h : p) : Hid p := h
end Go.Proofs.YteloaggebkbeeaaDoor
