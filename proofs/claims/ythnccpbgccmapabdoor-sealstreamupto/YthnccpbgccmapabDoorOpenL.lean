import Derived.Test.YthnccpbgccmapabDoorLaid
import Derived.Test.YthnccpbgccmapabDoorRowLaw
namespace Go.Proofs.YthnccpbgccmapabDoor
open Go.ChangeShapes Go.WideShapes Go.ChangeAt Go.RowKit Go.Deep Go.Joins
set_option linter.unusedVariables false

theorem Tryd.cells26 : Tryd.prog.cellsOf 26 = 1 := by kernel_rfl

theorem bulk_lists {H : Type} (f : Nat → List UInt8) (D : Nat → DataW H) (l : List Nat) (h : ∀ i ∈ l, (f i).length ≤ Rows.uptoBulk (D i)) : ((l.map f).map List.length).sum ≤ Rows.uptoBulkAll (l.map D) := by
  induction l with
  | nil => simp
  | cons i r ih =>
    have h1 := ih (fun j hj => h j (by simp [hj]))
    have h2 := h i (by simp)
    simp only [List.map_cons, List.sum_cons, Rows.uptoBulkAll] at h1 ⊢
    omega

theorem len_le_sum {ls : List (List UInt8)} {x : List UInt8} (h : x ∈ ls) : x.length ≤ (ls.map List.length).sum := by
  induction ls with
  | nil => simp at h
  | cons a r ih =>
    simp only [List.map_cons, List.sum_cons]
    rcases List.mem_cons.1 h with rfl | h
    · omega
    · have := ih h
      omega

theorem bulk_one {H : Type} (d : DataW H) : 1 ≤ Rows.uptoBulk d := by
  cases d with
  | lit l => cases l <;> simp [Rows.uptoBulk]
  | _ => simp [Rows.uptoBulk]

theorem bulk_count {H : Type} (ds : List (DataW H)) : ds.length ≤ Rows.uptoBulkAll ds := by
  induction ds with
  | nil => simp
  | cons d r ih =>
    have := bulk_one d
    simp only [List.length_cons, Rows.uptoBulkAll]
    omega

theorem one_bytes {H : Type} {enc : TypeId × Value → H} {W : World} {n : Nat} {cs : List Value} {d : DataW H} {p : List MemPlace} (h : DataW.trod enc Tryd.prog W 0 (fun _ => true) true n 26 cs = some (d, p)) : ∃ u l, cs = [u] ∧ Reads W u l ∧ l.length ≤ Rows.uptoBulk d := by
  have hcs : ∃ a l c, cs = [.slice a l c] := by
    rcases open_ints Tryd.underlying26 Tryd.underlying5 Tryd.cells5 h with ⟨hcs, _⟩ | ⟨a, len, cap, zs, hcs, _⟩
    · exact ⟨_, _, _, hcs⟩
    · exact ⟨_, _, _, hcs⟩
  obtain ⟨a, l, c, rfl⟩ := hcs
  obtain ⟨b, h1, h2, _⟩ := open_bytes (enc := enc) (v := .slice a l c) ⟨n, h⟩ ⟨a, l, c, rfl⟩
  exact ⟨_, b, rfl, h1, h2⟩

/-- Lists of bytes that came in. -/
theorem open_lists {H : Type} {enc : TypeId × Value → H} {W : World} {v : Value} {d : DataW H} {p : List MemPlace} (h : DataW.Trod enc Tryd.prog W 0 (fun _ => true) true 29 v d p) (hv : ∃ a l c, v = .slice a l c) :
    ∃ ls, Lists W v ls ∧ ls.length ≤ Rows.uptoBulk d ∧ remN ls 0 ≤ Rows.uptoBulk d ∧ ∀ l ∈ ls, l.length ≤ Rows.uptoBulk d := by
  obtain ⟨fuel, hf⟩ := h
  obtain ⟨a0, l0, c0, rfl⟩ := hv
  rcases open_slice Tryd.underlying29 hf with ⟨hcs, hx⟩ | ⟨a, len, cap, m, n, D, Pl, hcs, _, hl, hm, hmm, hx, hel⟩
  · simp [Value.cells] at hcs
    obtain ⟨rfl, rfl, rfl⟩ := hcs
    exact ⟨[], ⟨none, 0, rfl, Or.inl rfl⟩, by simp, by simp [remN], by simp⟩
  · simp [Value.cells] at hcs
    obtain ⟨rfl, rfl, rfl⟩ := hcs
    have hlm : l0 ≤ m := by rw [hmm]; split <;> omega
    simp only [Prod.mk.injEq] at hx
    obtain ⟨rfl, _⟩ := hx
    have each : ∀ i, i < l0 → ∃ x : List UInt8, (∃ u, W.cell? (a.add i) = some u ∧ Reads W u x) ∧ x.length ≤ Rows.uptoBulk (D i) := by
      intro i hi
      obtain ⟨cs', h1, h2⟩ := hel i (by omega)
      rw [Tryd.cells26] at h1
      obtain ⟨_, hlen, hcell⟩ := World.cells?_some h1
      obtain ⟨u, l, rfl, h3, h4⟩ := one_bytes h2
      have q0 := hcell 0 (by simp)
      rw [add_add] at q0
      exact ⟨l, ⟨u, by simpa using q0, h3⟩, h4⟩
    obtain ⟨f, hf'⟩ := choose_lt each
    have hsum := bulk_lists f D (List.range l0) (fun i hi => (hf' i (List.mem_range.1 hi)).2)
    have hcnt := bulk_count ((List.range l0).map D)
    refine ⟨(List.range l0).map f, ⟨some a, c0, by simp, ?_⟩, ?_, ?_, ?_⟩
    · by_cases h0 : l0 = 0
      · left; simp [h0]
      · right
        have hsp : a.spot = none := by
          obtain ⟨u, hu, _⟩ := (hf' 0 (by omega)).1
          have := World.cell?_spot hu
          simpa [Addr.add] using this
        obtain ⟨b, off, sp⟩ := a
        simp only at hsp
        subst hsp
        refine ⟨b, off, rfl, ?_, ?_⟩
        · obtain ⟨u, hu, _⟩ := (hf' 0 (by omega)).1
          have := World.block_lt_of_cell? W _ hu
          simpa [Addr.add] using this
        · intro i x hx
          simp only [List.getElem?_map] at hx
          by_cases hi : i < l0
          · simp [hi] at hx
            subst hx
            have := (hf' i hi).1
            simpa [Addr.add_lit] using this
          · simp [hi] at hx
    · simp only [Rows.uptoBulk]
      simp at hcnt ⊢
      omega
    · simp only [Rows.uptoBulk, remN, List.drop_zero]
      omega
    · intro x hx
      have h1 : x.length ≤ (((List.range l0).map f).map List.length).sum := len_le_sum hx
      simp only [Rows.uptoBulk]
      omega
end Go.Proofs.YthnccpbgccmapabDoor
