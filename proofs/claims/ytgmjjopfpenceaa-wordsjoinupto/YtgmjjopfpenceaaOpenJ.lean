import Derived.Test.YtgmjjopfpenceaaJoinLaw
import Derived.Test.YtgmjjopfpenceaaLaid
import Derived.Deep.Strs
namespace Go.Proofs.Ytgmjjopfpenceaa
open Go.ChangeShapes Go.WideShapes Go.ChangeAt Go.RowKit Go.Deep Go.Joins
set_option linter.unusedVariables false

theorem Try.cells9 : Try.prog.cellsOf 9 = 1 := by kernel_rfl
section
variable {H : Type} {enc : TypeId × Value → H} {W : World} {base : Nat} {sp : Nat → Bool} {held : Bool} {fuel : Nat} {cs : List Value} {x : DataW H × List MemPlace}
theorem bulk_all_app (a b : List (DataW H)) : Rows.uptoBulkAll (a ++ b) = Rows.uptoBulkAll a + Rows.uptoBulkAll b := by
  induction a with
  | nil => simp [Rows.uptoBulkAll]
  | cons d r ih => simp only [List.cons_append, Rows.uptoBulkAll, ih]; omega
theorem bulk_strs (Sx : Nat → ByteArray) (l : List Nat) : lenJ (l.map fun i => (Sx i).data.toList) + l.length ≤ 32 * Rows.uptoBulkAll (l.map fun i => (.lit (.string (Sx i).data.toList) : DataW H)) := by
  induction l with
  | nil => simp [lenJ]
  | cons a r ih =>
    simp only [lenJ, List.map_cons, List.sum_cons, Rows.uptoBulkAll, Rows.uptoBulk, List.length_cons] at ih ⊢
    omega
/-- Texts that came in, with how much they hold. -/
theorem texts_bulk (h : DataW.trod enc Try.prog W base sp held fuel 22 cs = some x) : ∃ s l, cs = [s] ∧ Rt W s l ∧ lenJ l + l.length ≤ 32 * Rows.uptoBulk x.1 := by
  rcases open_strs Try.underlying22 Try.underlying9 Try.cells9 h with ⟨rfl, rfl⟩ | ⟨a, len, cap, m, Sx, rfl, _, hl, hm, hmm, rfl, hc⟩
  · exact ⟨_, [], rfl, ⟨none, 0, rfl, by simp, Or.inl rfl⟩, by simp [lenJ]⟩
  · have hlm : len ≤ m := by rw [hmm]; split <;> omega
    refine ⟨_, (List.range len).map fun i => (Sx i).data.toList, rfl, ⟨some a, cap, by simp, by simpa using hl, ?_⟩, ?_⟩
    · by_cases h0 : len = 0
      · left; subst h0; rfl
      · right
        have hc0 := (hc 0 (by omega)).1
        have hsp : a.spot = none := by
          have := World.cell?_spot hc0
          simpa [Addr.add] using this
        obtain ⟨b, off, sp'⟩ := a
        simp only at hsp
        subst hsp
        refine ⟨b, off, rfl, ?_, fun j hj => ?_⟩
        · have := World.block_lt_of_cell? W _ hc0
          simpa [Addr.add] using this
        · have hj' : j < len := by simpa using hj
          have h1 := (hc j (by omega)).1
          rw [Addr.add_lit] at h1
          rw [h1]
          simp
    · have := bulk_strs (H := H) Sx (List.range len)
      simp only [Rows.uptoBulk, List.length_map] at this ⊢
      omega
theorem open_wsB {v : Value} {d : DataW H} {p : List MemPlace} (h : DataW.Trod enc Try.prog W 0 (fun _ => true) true 22 v d p) (hv : ∃ a l c, v = .slice a l c) (hb : Rows.uptoBulk d ≤ 1048576) : ∃ ws, Rt W v ws ∧ lenJ ws ≤ 100000000 ∧ ws.length ≤ 100000000 := by
  obtain ⟨fuel, hf⟩ := h
  obtain ⟨a0, l0, c0, rfl⟩ := hv
  obtain ⟨s, l, e, hr, hz⟩ := texts_bulk hf
  simp [Value.cells] at e
  subst e
  simp only at hz
  exact ⟨l, hr, by omega, by omega⟩
end
end Go.Proofs.Ytgmjjopfpenceaa
