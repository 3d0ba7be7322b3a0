import Derived.Test.YtdndfbgjaadbmaaLaw
import Derived.ProofKit
import Derived.OpenShut
import Derived.JoinedCond
import Derived.Deep.Slices
import Derived.Lib.SmallJoins
namespace Go.Proofs.Ytdndfbgjaadbmaa
open Go.ChangeShapes Go.WideShapes Go.ChangeAt Go.RowKit Go.Deep Go.Joins
set_option linter.unusedVariables false

theorem Try.cells35 : Try.prog.cellsOf 35 = 4 := by kernel_rfl
theorem Try.cells3 : Try.prog.cellsOf 3 = 1 := by kernel_rfl
theorem Try.cells4 : Try.prog.cellsOf 4 = 1 := by kernel_rfl
theorem Try.cells9 : Try.prog.cellsOf 9 = 1 := by kernel_rfl
theorem Try.own : ownKnob Try.prog.godebug = none := by kernel_rfl
theorem Try.laidOut : laidOutB Try.prog = true := by kernel_rfl

/-- The bulk of an item. -/
def itemD {H : Type} (x : It) : DataW H := .agg [.lit (.int .i64 x.kind), .lit (.int .i64 x.n), .lit (.bool x.v), .lit (.string x.s.data.toList)]

theorem bulk_item {H : Type} (x : It) : Rows.uptoBulk (itemD (H := H) x) = x.s.size + 5 := by
  simp only [itemD, Rows.uptoBulk, Rows.uptoBulkAll]
  have : x.s.data.toList.length = x.s.size := rfl
  omega

theorem sizeI_bulk {H : Type} (f : Nat → It) (D : Nat → DataW H) (l : List Nat) (h : ∀ i ∈ l, D i = itemD (f i)) : sizeI (l.map f) ≤ 2 * Rows.uptoBulkAll (l.map D) := by
  induction l with
  | nil => simp [sizeI]
  | cons i r ih =>
    have h1 := ih (fun j hj => h j (by simp [hj]))
    have h2 := h i (by simp)
    have h3 := bulk_item (H := H) (f i)
    simp only [sizeI, List.map_cons, List.sum_cons, Rows.uptoBulkAll, h2, h3] at h1 ⊢
    omega

theorem i64_wf {n : Int} (h : (Lit.int .i64 n).wf = true) : -9223372036854775808 ≤ n ∧ n < 9223372036854775808 := by
  have : -9223372036854775808 ≤ n ∧ n ≤ 9223372036854775807 := by simpa [Lit.wf, IntKind.min, IntKind.max, IntKind.signed, IntKind.bits] using h
  omega

/-- A list of items that came in. -/
theorem open_items {H : Type} {enc : TypeId × Value → H} {W : World} {v : Value} {d : DataW H} {p : List MemPlace} (h : DataW.Trod enc Try.prog W 0 (fun _ => true) true 22 v d p) (hv : ∃ a l c, v = .slice a l c) :
    ∃ its, ItemsAt W v its ∧ (∀ x ∈ its, x.Ok) ∧ sizeI its ≤ 2 * Rows.uptoBulk d := by
  obtain ⟨fuel, hf⟩ := h
  obtain ⟨a0, l0, c0, rfl⟩ := hv
  rcases open_slice Try.underlying22 hf with ⟨hcs, hx⟩ | ⟨a, len, cap, m, n, D, Pl, hcs, _, hl, hm, hmm, hx, hel⟩
  · simp [Value.cells] at hcs
    obtain ⟨rfl, rfl, rfl⟩ := hcs
    exact ⟨[], ⟨none, 0, rfl, Or.inl rfl⟩, by simp, by simp [sizeI]⟩
  · simp [Value.cells] at hcs
    obtain ⟨rfl, rfl, rfl⟩ := hcs
    have hlm : l0 ≤ m := by rw [hmm]; split <;> omega
    simp only [Prod.mk.injEq] at hx
    obtain ⟨rfl, _⟩ := hx
    have each : ∀ i, i < l0 → ∃ x : It, x.Ok ∧ D i = itemD x ∧ W.cell? (a.add (i * 4)) = some (.int .i64 x.kind) ∧ W.cell? (a.add (i * 4 + 1)) = some (.int .i64 x.n) ∧ W.cell? (a.add (i * 4 + 2)) = some (.bool x.v) ∧ W.cell? (a.add (i * 4 + 3)) = some (.string x.s) := by
      intro i hi
      obtain ⟨cs', h1, h2⟩ := hel i (by omega)
      rw [Try.cells35] at h1
      obtain ⟨_, hlen, hcell⟩ := World.cells?_some h1
      obtain ⟨y0, y1, y2, y3, n', hxy, _, g0, g1, g2, g3⟩ := trod_struct4 Try.underlying35 h2
      match cs', hlen with
      | [v0, v1, v2, v3], _ =>
        simp only [Try.cells3, Try.cells4, Try.cells9, List.drop_zero, List.drop_succ_cons, List.take_succ_cons, List.take_zero] at g0 g1 g2 g3
        obtain ⟨k, e0, r0, w0⟩ := DataW.trod_int Try.underlying3 g0
        obtain ⟨nn, e1, r1, w1⟩ := DataW.trod_int Try.underlying3 g1
        obtain ⟨bb, e2, r2⟩ := DataW.trod_bool Try.underlying4 g2
        obtain ⟨s, e3, r3, w3⟩ := DataW.trod_string Try.underlying9 g3
        simp only [List.cons.injEq, and_true] at e0 e1 e2 e3
        subst e0 e1 e2 e3 r0 r1 r2 r3
        have q0 := hcell 0 (by omega)
        have q1 := hcell 1 (by omega)
        have q2 := hcell 2 (by omega)
        have q3 := hcell 3 (by omega)
        rw [add_add] at q0 q1 q2 q3
        refine ⟨⟨k, nn, bb, s⟩, ⟨i64_wf w0, i64_wf w1⟩, ?_, by simpa using q0, by simpa using q1, by simpa using q2, by simpa using q3⟩
        simp only [Prod.mk.injEq] at hxy
        rw [hxy.1]
        rfl
    haveI : Inhabited It := ⟨⟨0, 0, false, ⟨#[]⟩⟩⟩
    obtain ⟨f, hf'⟩ := choose_lt each
    refine ⟨(List.range l0).map f, ⟨some a, c0, by simp, ?_⟩, ?_, ?_⟩
    · by_cases h0 : l0 = 0
      · left; simp [h0]
      · right
        have hsp : a.spot = none := by
          have := World.cell?_spot (hf' 0 (by omega)).2.2.1
          simpa [Addr.add] using this
        obtain ⟨b, off, sp⟩ := a
        simp only at hsp
        subst hsp
        refine ⟨b, off, rfl, ?_, ?_⟩
        · have := World.block_lt_of_cell? W _ (hf' 0 (by omega)).2.2.1
          simpa [Addr.add] using this
        · intro i x hx
          simp only [List.getElem?_map] at hx
          by_cases hi : i < l0
          · simp [hi] at hx
            subst hx
            have := (hf' i hi).2.2
            simpa [Addr.add_lit, Nat.add_assoc] using this
          · simp [hi] at hx
    · intro x hx
      obtain ⟨i, hi, rfl⟩ := List.mem_map.1 hx
      exact (hf' i (List.mem_range.1 hi)).1
    · have := sizeI_bulk f D (List.range l0) (fun i hi => (hf' i (List.mem_range.1 hi)).2.1)
      simp only [Rows.uptoBulk]
      omega

end Go.Proofs.Ytdndfbgjaadbmaa
