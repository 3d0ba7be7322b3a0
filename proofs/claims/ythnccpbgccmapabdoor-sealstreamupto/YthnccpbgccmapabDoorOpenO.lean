import Derived.Test.YthnccpbgccmapabDoorOpenL
import Derived.Test.YthnccpbgccmapabDoorStreamLaw
namespace Go.Proofs.YthnccpbgccmapabDoor
open Go.ChangeShapes Go.WideShapes Go.ChangeAt Go.RowKit Go.Deep Go.Joins
set_option linter.unusedVariables false

theorem Tryd.cells33 : Tryd.prog.cellsOf 33 = 3 := by kernel_rfl
theorem Tryd.cells4' : Tryd.prog.cellsOf 4 = 1 := by kernel_rfl
theorem Tryd.cells3' : Tryd.prog.cellsOf 3 = 1 := by kernel_rfl

instance : Inhabited OpS := ⟨⟨false, 0, .slice none 0 0, []⟩⟩

theorem bulk_ops {H : Type} (f : Nat → OpS) (D : Nat → DataW H) (l : List Nat) (h : ∀ i ∈ l, (f i).b.length ≤ Rows.uptoBulk (D i)) : ((l.map f).map fun x => x.b.length).sum ≤ Rows.uptoBulkAll (l.map D) := by
  induction l with
  | nil => simp
  | cons i r ih =>
    have h1 := ih (fun j hj => h j (by simp [hj]))
    have h2 := h i (by simp)
    simp only [List.map_cons, List.sum_cons, Rows.uptoBulkAll] at h1 ⊢
    omega

/-- A script that came in. -/
theorem open_ops {H : Type} {enc : TypeId × Value → H} {W : World} {v : Value} {d : DataW H} {p : List MemPlace} (h : DataW.Trod enc Tryd.prog W 0 (fun _ => true) true 22 v d p) (hv : ∃ a l c, v = .slice a l c) :
    ∃ xs, OpsAt W v xs ∧ xs.length ≤ Rows.uptoBulk d ∧ remO xs 0 ≤ Rows.uptoBulk d := by
  obtain ⟨fuel, hf⟩ := h
  obtain ⟨a0, l0, c0, rfl⟩ := hv
  rcases open_slice Tryd.underlying22 hf with ⟨hcs, hx⟩ | ⟨a, len, cap, m, n, D, Pl, hcs, _, hl, hm, hmm, hx, hel⟩
  · simp [Value.cells] at hcs
    obtain ⟨rfl, rfl, rfl⟩ := hcs
    exact ⟨[], ⟨none, 0, rfl, Or.inl rfl⟩, by simp, by simp [remO]⟩
  · simp [Value.cells] at hcs
    obtain ⟨rfl, rfl, rfl⟩ := hcs
    have hlm : l0 ≤ m := by rw [hmm]; split <;> omega
    simp only [Prod.mk.injEq] at hx
    obtain ⟨rfl, _⟩ := hx
    have each : ∀ i, i < l0 → ∃ x : OpS, (W.cell? (a.add (i * 3)) = some (.bool x.sec) ∧ W.cell? (a.add (i * 3 + 1)) = some (.int .i64 x.kind) ∧ W.cell? (a.add (i * 3 + 2)) = some x.bv ∧ Reads W x.bv x.b) ∧ x.b.length ≤ Rows.uptoBulk (D i) := by
      intro i hi
      obtain ⟨cs', h1, h2⟩ := hel i (by omega)
      rw [Tryd.cells33] at h1
      obtain ⟨_, hlen, hcell⟩ := World.cells?_some h1
      obtain ⟨y0, y1, y2, n', hxy, _, g0, g1, g2⟩ := trod_struct3 Tryd.underlying33 h2
      match cs', hlen with
      | [v0, v1, v2], _ =>
        simp only [Tryd.cells4', Tryd.cells3', Tryd.cells26, List.drop_zero, List.drop_succ_cons, List.take_succ_cons, List.take_zero] at g0 g1 g2
        obtain ⟨b0, e0, r0⟩ := DataW.trod_bool Tryd.underlying4 g0
        obtain ⟨k, e1, r1, w1⟩ := DataW.trod_int Tryd.underlying3 g1
        obtain ⟨u, l, e2, h3, h4⟩ := one_bytes g2
        simp only [List.cons.injEq, and_true] at e0 e1 e2
        subst e0 e1 e2
        have q0 := hcell 0 (by simp)
        have q1 := hcell 1 (by simp)
        have q2 := hcell 2 (by simp)
        rw [add_add] at q0 q1 q2
        refine ⟨⟨b0, k, _, l⟩, ⟨by simpa using q0, by simpa using q1, by simpa using q2, h3⟩, ?_⟩
        simp only [Prod.mk.injEq] at hxy
        rw [hxy.1]
        simp only [Rows.uptoBulk, Rows.uptoBulkAll]
        omega
    obtain ⟨f, hf'⟩ := choose_lt each
    have hsum := bulk_ops f D (List.range l0) (fun i hi => (hf' i (List.mem_range.1 hi)).2)
    have hcnt := bulk_count ((List.range l0).map D)
    refine ⟨(List.range l0).map f, ⟨some a, c0, by simp, ?_⟩, ?_, ?_⟩
    · by_cases h0 : l0 = 0
      · left; simp [h0]
      · right
        have hsp : a.spot = none := by
          have hu := (hf' 0 (by omega)).1.1
          have := World.cell?_spot hu
          simpa [Addr.add] using this
        obtain ⟨b, off, sp⟩ := a
        simp only at hsp
        subst hsp
        refine ⟨b, off, rfl, ?_, ?_⟩
        · have hu := (hf' 0 (by omega)).1.1
          have := World.block_lt_of_cell? W _ hu
          simpa [Addr.add] using this
        · intro i x hx
          simp only [List.getElem?_map] at hx
          by_cases hi : i < l0
          · simp [hi] at hx
            subst hx
            have := (hf' i hi).1
            simpa [Addr.add_lit, Nat.add_assoc] using this
          · simp [hi] at hx
    · simp only [Rows.uptoBulk]
      simp at hcnt ⊢
      omega
    · simp only [Rows.uptoBulk, remO, List.drop_zero]
      omega
end Go.Proofs.YthnccpbgccmapabDoor
