import Derived.Test.YtmpbdncgilahkaaShelf
import Derived.Laws.CopyOwn
import Derived.Laws.MakeOwn
namespace Go.Proofs.Ytmpbdncgilahkaa
open Go.RowKit
set_option linter.unusedVariables false

theorem Try.info3 : (Try.prog.info? 3).map (fun i => (i.zero, i.size, i.bytes)) = some (some (.int .i64 0), 1, 8) := by kernel_rfl

abbrev ints (xs : List Int) : List Value := xs.map (Value.int .i64)
theorem ints_one (xs : List Int) : ∀ v ∈ ints xs, v.oneCell' = true := by
  intro v hv
  obtain ⟨x, _, rfl⟩ := List.mem_map.1 hv
  rfl

/-- A slice of numbers that came in. -/
def IntsAt (w : World) (v : Value) (xs : List Int) : Prop :=
  ∃ ao cap, v = .slice ao xs.length cap ∧ xs.length ≤ cap ∧ ((xs = [] ∧ (ao = none → cap = 0)) ∨ ∃ b off, ao = some ⟨b, off, none⟩ ∧ b < w.heap.size ∧ ∀ j u, (ints xs)[j]? = some u → w.cell? ⟨b, off + j, none⟩ = some u)

theorem IntsAt.later {w w' : World} {v : Value} {xs : List Int} (h : IntsAt w v xs) (hb : Below w.heap.size w w') : IntsAt w' v xs := by
  obtain ⟨ao, cap, e, hc, h | ⟨b, off, e2, hlt, hcell⟩⟩ := h
  · exact ⟨ao, cap, e, hc, .inl h⟩
  · exact ⟨ao, cap, e, hc, .inr ⟨b, off, e2, Nat.lt_of_lt_of_le hlt hb.size, fun j u hu => (hb.cell (p := ⟨b, off + j, none⟩) hlt).trans (hcell j u hu)⟩⟩

theorem made_ints (z : Value) (hz : z.cells = #[z]) (n : Nat) : madeCells z.cells (n * 1) = (List.replicate n z).toArray := by
  rw [hz, Nat.mul_one]
  apply Array.ext
  · simp [size_madeCells]
  · intro i h1 h2
    simp [madeCells, Nat.mod_one]

/-- make([]int, n). -/
theorem make_ints {w : World} (n : Nat) (hn : n * 8 ≤ 281474976710656) : (Instr.makeSlice 28 (.int .i64 n) (.int .i64 n)).run Try.prog w = .ok (.slice (some ⟨w.heap.size, 0, none⟩) n n) (w.alloc (.cells (List.replicate n (.int .i64 0)).toArray 3)) := by
  obtain ⟨i0, hi, hz0, hz1, hz2⟩ := info_parts Try.info3
  have h := run_make (P := Try.prog) w 28 3 i0 (.int .i64 0) Try.underlying28 hi hz0 .i64 .i64 n n (by omega) (by omega) (by rw [hz2]; omega) (by omega)
  rw [hz1, Int.toNat_natCast, made_ints (.int .i64 0) rfl] at h
  exact h

/-- Copying numbers into a row that lies alone. -/
theorem copy_ints {w1 : World} (H dLen dCap : Nat) (l : List Int) (ao : Option Addr) (c : Nat) (suf : List Value) (h : IntsAt w1 (.slice ao l.length c) l) (hg : w1.heap[H]? = some (.cells suf.toArray 3 (0, 0))) (hd : l.length ≤ dLen) (hc : l.length ≤ suf.length) :
    ∃ wz, (Builtin.copy_ #[28, 28] 3 #[.slice (some ⟨H, 0, none⟩) dLen dCap, .slice ao l.length c]).run Try.prog w1 = .ok (.int .i64 (l.length : Int)) wz ∧ wz.heap[H]? = some (.cells (ints l ++ suf.drop l.length).toArray 3 (0, 0)) ∧ Fr [H] w1 wz := by
  obtain ⟨i0, hi, hz0, hz1, hz2⟩ := info_parts Try.info3
  obtain ⟨ao', c', e, _, hcase⟩ := h
  simp only [Value.slice.injEq] at e
  obtain ⟨rfl, _, rfl⟩ := e
  have key : ∀ a : Addr, (∀ j u, (ints l)[j]? = some u → w1.cell? (a.add j) = some u) → ∃ wz, (Builtin.copy_ #[28, 28] 3 #[.slice (some ⟨H, 0, none⟩) dLen dCap, .slice (some a) l.length c]).run Try.prog w1 = .ok (.int .i64 (l.length : Int)) wz ∧ wz.heap[H]? = some (.cells (ints l ++ suf.drop l.length).toArray 3 (0, 0)) ∧ Fr [H] w1 wz := fun a hcell => by
    have hr := run_copy_row (P := Try.prog) w1 28 28 3 3 H 0 dLen dCap a l.length c suf.toArray 3 (ints l) Try.underlying28 (by rw [hi]; simp [hz1]) hg (by rw [List.length_map]; exact (Nat.min_eq_left hd).symm) hcell (by rw [List.length_map]; simp; omega) (ints_one _)
    rw [List.length_map] at hr
    refine ⟨_, hr, ?_, ⟨rfl, rfl, rfl, by simp, fun k _ hk => setRow_other w1 H k _ (by simpa using hk)⟩⟩
    rw [setRow_heap w1 H _ _ 3 (0, 0) hg]
    simp
  rcases hcase with ⟨rfl, h0⟩ | ⟨g, o, rfl, hgg, hcell⟩
  · cases ao with
    | none =>
      obtain rfl := h0 rfl
      refine ⟨w1, ?_, by simpa using hg, ⟨rfl, rfl, rfl, Nat.le_refl _, fun _ _ _ => rfl⟩⟩
      exact run_copy_nil (P := Try.prog) w1 28 28 3 3 ⟨H, 0, none⟩ dLen dCap Try.underlying28 (by rw [hi]; rfl)
    | some a => exact key a (fun j u hu => by simp at hu)
  · exact key _ (by simpa [Addr.add_lit] using hcell)
end Go.Proofs.Ytmpbdncgilahkaa
