import Derived.Test.YtpfpamkbahgkpaaBg10
namespace Go.Proofs.Ytpfpamkbahgkpaa
open Go.RowKit
set_option linter.unusedVariables false

theorem All.rowSets {e : TypeId} {size g n c : Nat} {cs : List Comp} : ∀ (us vs : List Value) (w : World) (o : Nat), All (rowC e size (.slice (some ⟨g, 0, none⟩) n c) n vs :: cs) w → All (rowC e size (.slice (some ⟨g, 0, none⟩) n c) n (setAll vs o us) :: cs) (w.setCells g o us)
  | [], vs, w, o, h => h
  | u :: us, vs, w, o, h => by
    rw [World.setCells]
    exact All.rowSets us (vs.set o u) _ (o + 1) (h.rowSet o u)

theorem made_pks (n : Nat) : madeCells Pk.zero.cells.toArray (n * 6) = (flatP (List.replicate n Pk.zero)).toArray := by
  apply Array.ext
  · simp [size_madeCells, flatP_len]
  · intro i h1 h2
    have hi : i < n * 6 := by simpa [size_madeCells] using h1
    have hd : i / 6 < n := by omega
    have h3 := flatP_at (l := List.replicate n Pk.zero) (i := i / 6) (e := Pk.zero) (by rw [List.getElem?_replicate, if_pos hd]) (j := i % 6) (by omega)
    rw [show i / 6 * 6 + i % 6 = i by omega] at h3
    have h4 : i < (flatP (List.replicate n Pk.zero)).length := by rw [flatP_len]; simpa using hi
    rw [List.getElem?_eq_getElem h4, List.getElem?_eq_getElem (by show i % 6 < 6; omega)] at h3
    simp only [madeCells, List.getElem_toArray]
    have h5 := Option.some.inj h3
    rw [h5]
    simp [Pk.len, getElem!_pos, Nat.mod_lt]
theorem make_pks {w : World} (n : Nat) (hn : n * 64 ≤ 281474976710656) : (Instr.makeSlice 39 (.int .i64 n) (.int .i64 n)).run Try.prog w = .ok (.slice (some ⟨w.heap.size, 0, none⟩) n n) (w.alloc (.cells (flatP (List.replicate n Pk.zero)).toArray 49)) := by
  obtain ⟨i0, hi, hz0, hz1, hz2⟩ := info_parts Try.info49
  have h := run_make (P := Try.prog) w 39 49 i0 (.agg Pk.zero.cells.toArray) Try.underlying39 hi hz0 .i64 .i64 n n (by omega) (by omega) (by rw [hz2]; omega) (by omega)
  rw [hz1, Int.toNat_natCast] at h
  rw [h]
  have : (Value.agg Pk.zero.cells.toArray).cells = Pk.zero.cells.toArray := rfl
  rw [this, made_pks]
end Go.Proofs.Ytpfpamkbahgkpaa
