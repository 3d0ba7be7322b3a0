import Derived.Test.YthnccpbgccmapabDoorLaid
import Derived.Test.YthnccpbgccmapabDoorCuts
namespace Go.Proofs.YthnccpbgccmapabDoor
open Go.ChangeShapes Go.WideShapes Go.ChangeAt Go.RowKit Go.Deep Go.Joins
set_option linter.unusedVariables false

theorem Tryd.cells3 : Tryd.prog.cellsOf 3 = 1 := by kernel_rfl

/-- Whole numbers that came in. -/
theorem open_whole {H : Type} {enc : TypeId × Value → H} {W : World} {v : Value} {d : DataW H} {p : List MemPlace} (h : DataW.Trod enc Tryd.prog W 0 (fun _ => true) true 39 v d p) (hv : ∃ a l c, v = .slice a l c) :
    ∃ ns, IntsAt W v ns ∧ ns.length ≤ Rows.uptoBulk d := by
  obtain ⟨fuel, hf⟩ := h
  obtain ⟨a0, l0, c0, rfl⟩ := hv
  rcases open_ints Tryd.underlying39 Tryd.underlying3 Tryd.cells3 hf with ⟨hcs, hx⟩ | ⟨a, len, cap, zs, hcs, _, hl, hm, hz, hx, hcell, hwz⟩
  · simp [Value.cells] at hcs
    obtain ⟨rfl, rfl, rfl⟩ := hcs
    exact ⟨[], ⟨none, 0, rfl, Or.inl rfl⟩, by simp⟩
  · simp [Value.cells] at hcs
    obtain ⟨rfl, rfl, rfl⟩ := hcs
    simp only [if_true] at hz
    simp only [Prod.mk.injEq] at hx
    obtain ⟨rfl, _⟩ := hx
    have hlz : (zs.take l0).length = l0 := by simp; omega
    refine ⟨zs.take l0, ⟨some a, c0, by rw [hlz], ?_⟩, ?_⟩
    · by_cases h0 : l0 = 0
      · left; simp [h0]
      · right
        have hc0 := hcell 0 (by omega)
        have hsp : a.spot = none := by
          have := World.cell?_spot hc0
          simpa [Addr.add] using this
        obtain ⟨b, off, sp⟩ := a
        simp only at hsp
        subst hsp
        refine ⟨b, off, rfl, ?_, fun i n hn => ?_⟩
        · have := World.block_lt_of_cell? W _ hc0
          simpa [Addr.add] using this
        · have hj : i < l0 := by
            have := (List.getElem?_eq_some_iff.1 hn).1
            omega
          have hjz : i < zs.length := by omega
          have hc := hcell i hjz
          rw [Addr.add_lit] at hc
          rw [List.getElem?_take, if_pos hj, List.getElem?_eq_getElem hjz] at hn
          cases hn
          rw [hc]
          simp [List.getD_eq_getElem?_getD, List.getElem?_eq_getElem hjz]
    · rw [hlz]
      have h1 := bulk_lits (H := H) .i64 (zs.take l0)
      simp only [Rows.uptoBulk, h1, List.length_take]
      omega
end Go.Proofs.YthnccpbgccmapabDoor
