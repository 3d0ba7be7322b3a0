import Derived.Test.YthnccpbgccmapabDoorSigned
import Derived.Laws.CopyOwn
namespace Go.Proofs.YthnccpbgccmapabDoor
open Go.RowKit
set_option linter.unusedVariables false

/-- Of what was there nothing has turned but the blocks of a list. -/
structure Fr (F : List Nat) (w w' : World) : Prop where
  os : w'.os = w.os
  tape : w'.tape = w.tape
  output : w'.output = w.output
  size : w.heap.size ≤ w'.heap.size
  block : ∀ k, k < w.heap.size → k ∉ F → w'.heap[k]? = w.heap[k]?

theorem Fr.refl (F : List Nat) (w : World) : Fr F w w := ⟨rfl, rfl, rfl, Nat.le_refl _, fun _ _ _ => rfl⟩

/-- Copying bytes into a row that lies alone, from a place on. -/
theorem copy_runs {w1 : World} (H p dLen dCap : Nat) (l : List UInt8) (ao : Option Addr) (c : Nat) (pre suf : List Value) (h : Reads w1 (.slice ao l.length c) l) (hg : w1.heap[H]? = some (.cells (pre ++ suf).toArray 5 (0, 0))) (hp : pre.length = p) (hd : l.length ≤ dLen) (hc : l.length ≤ suf.length) :
    ∃ wz, (Builtin.copy_ #[26, 26] 3 #[.slice (some ⟨H, p, none⟩) dLen dCap, .slice ao l.length c]).run Tryd.prog w1 = .ok (.int .i64 (l.length : Int)) wz ∧ wz.heap[H]? = some (.cells (pre ++ (cellsB l ++ suf.drop l.length)).toArray 5 (0, 0)) ∧ Fr [H] w1 wz := by
  obtain ⟨i0, hi, hz0, hz1, hz2⟩ := info_parts Tryd.info5
  obtain ⟨ao', c', e, _, hcase⟩ := h
  simp only [Value.slice.injEq] at e
  obtain ⟨rfl, _, rfl⟩ := e
  have key : ∀ a : Addr, (∀ j u, (cellsB l)[j]? = some u → w1.cell? (a.add j) = some u) → ∃ wz, (Builtin.copy_ #[26, 26] 3 #[.slice (some ⟨H, p, none⟩) dLen dCap, .slice (some a) l.length c]).run Tryd.prog w1 = .ok (.int .i64 (l.length : Int)) wz ∧ wz.heap[H]? = some (.cells (pre ++ (cellsB l ++ suf.drop l.length)).toArray 5 (0, 0)) ∧ Fr [H] w1 wz := fun a hcell => by
    have hr := run_copy_row (P := Tryd.prog) w1 26 26 3 5 H p dLen dCap a l.length c (pre ++ suf).toArray 5 (cellsB l) Tryd.underlying26 (by rw [hi]; simp [hz1]) hg (by rw [cellsB_length]; exact (Nat.min_eq_left hd).symm) hcell (by rw [cellsB_length]; simp; omega) (cellsB_one _)
    rw [cellsB_length] at hr
    refine ⟨_, hr, ?_, ⟨rfl, rfl, rfl, by simp, fun k _ hk => setRow_other w1 H k _ (by simpa using hk)⟩⟩
    rw [setRow_heap w1 H _ _ 5 (0, 0) hg]
    subst hp
    simp [List.drop_append]
  rcases hcase with ⟨rfl, h0⟩ | ⟨g, o, rfl, hgg, hcell⟩
  · cases ao with
    | none =>
      obtain rfl := h0 rfl
      refine ⟨w1, ?_, by simpa [cellsB] using hg, Fr.refl _ _⟩
      exact run_copy_nil (P := Tryd.prog) w1 26 26 3 5 ⟨H, p, none⟩ dLen dCap Tryd.underlying26 (by rw [hi]; rfl)
    | some a => exact key a (fun j u hu => by simp [cellsB] at hu)
  · exact key _ (by simpa [Addr.add_lit] using hcell)
end Go.Proofs.YthnccpbgccmapabDoor
