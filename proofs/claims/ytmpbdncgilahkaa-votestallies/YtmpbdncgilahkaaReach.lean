import Derived.Test.YtmpbdncgilahkaaPure
import Derived.Test.YtmpbdncgilahkaaInts
import Derived.Test.YtmpbdncgilahkaaShown
import Derived.Test.YtmpbdncgilahkaaPick
namespace Go.Proofs.Ytmpbdncgilahkaa
open Go.RowKit
set_option linter.unusedVariables false

/-- The first n of a list, with zeros behind. -/
def lay (raw : List Int) (n i : Nat) : List Int := raw.take i ++ List.replicate (n - i) 0
theorem lay_len {raw : List Int} {n i : Nat} (h : i ≤ n) (hr : i ≤ raw.length) : (lay raw n i).length = n := by simp [lay]; omega
theorem lay_zero (raw : List Int) (n : Nat) : lay raw n 0 = List.replicate n 0 := by simp [lay]
theorem lay_set {raw : List Int} {n i : Nat} {x : Int} (h : i < n) (hx : raw[i]? = some x) : (ints (lay raw n i)).set i (.int .i64 x) = ints (lay raw n (i + 1)) := by
  have hr := (List.getElem?_eq_some_iff.1 hx).1
  have e : lay raw n (i + 1) = (lay raw n i).set i x := by
    unfold lay
    rw [List.set_append, if_neg (by simp; omega), List.take_add_one, hx, List.append_assoc]
    congr 1
    rw [show n - i = (n - (i + 1)) + 1 by omega, List.replicate_succ]
    simp
    rw [show i - min i raw.length = 0 by omega]
    rfl
  rw [e]
  simp [ints, List.map_set]
theorem made_ints_n {w : World} (n : Nat) (hn : n ≤ 7) : ∃ wz, (Instr.makeSlice 28 (.int .i64 n) (.int .i64 n)).run Try.prog w = .ok (.slice (some ⟨w.heap.size, 0, none⟩) n n) wz ∧ Below w.heap.size w wz ∧ wz.heap[w.heap.size]? = some (.cells (ints (List.replicate n 0)).toArray 3 (0, 0)) := by
  refine ⟨_, make_ints n (by omega), ba _ _, ?_⟩
  rw [heap_alloc_new]
  simp [ints]

theorem ge_tk {xs : List Int} {y x : Int} {j : Nat} (h : xs[j]? = some x) : ge y (xs.take (j + 1)) = ge y (xs.take j) + (if y ≤ x then 1 else 0) := by
  rw [List.take_add_one, h]
  simp [ge, List.countP_append, List.countP_cons]
theorem gt_tk {xs : List Int} {y x : Int} {j : Nat} (h : xs[j]? = some x) : gt y (xs.take (j + 1)) = gt y (xs.take j) + (if y < x then 1 else 0) := by
  rw [List.take_add_one, h]
  simp [gt, List.countP_append, List.countP_cons]

/-- A row of n numbers that lies alone. -/
def RowI (w : World) (g : Nat) (xs : List Int) : Prop := w.heap[g]? = some (.cells (ints xs).toArray 3 (0, 0))
theorem RowI.cell {w : World} {g : Nat} {xs : List Int} (h : RowI w g xs) {j : Nat} {x : Int} (hx : xs[j]? = some x) : w.cell? ⟨g, j, none⟩ = some (.int .i64 x) := by
  rw [cell_at h, List.getElem?_toArray, List.getElem?_map, hx]; rfl
theorem RowI.set {w : World} {g : Nat} {xs : List Int} (h : RowI w g xs) (j : Nat) (x : Int) : RowI (w.setCell ⟨g, j, none⟩ (.int .i64 x)) g (xs.set j x) := by
  have := heap_setCell_same (j := j) h (.int .i64 x)
  rw [List.setIfInBounds_toArray] at this
  unfold RowI
  rw [this]
  simp [ints, List.map_set]
theorem Point_row {w : World} {n g cap : Nat} {xs : List Int} (hf : fl n = true) (hn : xs.length = n) (h : RowI w g xs) :
    Calls Try.prog 12 #[.int .i64 n, .slice (some ⟨g, 0, none⟩) n cap] w fun e w' => e = .returned (.tuple #[.int .i64 (pnt n xs), .int .i64 0]) ∧ Below w.heap.size w w' ∧ RowI w' g xs := by
  have hg := (Array.getElem?_eq_some_iff.1 h).1
  refine (Point_ok (off := 0) hf hn (fun j hj => ?_)).mono ?_
  · rw [Nat.zero_add, h.cell (x := xs.getD j 0) (by simp [List.getD, List.getElem?_eq_getElem hj])]
  · rintro e w' ⟨he, hB⟩
    exact ⟨he, hB, (hB.block g hg).trans h⟩
end Go.Proofs.Ytmpbdncgilahkaa
