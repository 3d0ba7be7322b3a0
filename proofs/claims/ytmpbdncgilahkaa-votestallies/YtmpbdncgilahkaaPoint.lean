import Derived.Test.YtmpbdncgilahkaaSort
import Derived.Test.YtmpbdncgilahkaaNum
namespace Go.Proofs.Ytmpbdncgilahkaa
open Go.RowKit Go.Sort
set_option linter.unusedVariables false

def srt (xs : List Int) : List Int := xs.mergeSort fun x y => decide (x ≤ y)
theorem srt_len (xs : List Int) : (srt xs).length = xs.length := by simp [srt]

theorem clone_any {w : World} {b off cap : Nat} {xs : List Int} (hs : xs.length ≤ 1048576) (hc : ∀ j, j < xs.length → w.cell? ⟨b, off + j, none⟩ = some (.int .i64 (xs.getD j 0))) :
    Calls Try.prog 35 #[.slice (some ⟨b, off, none⟩) xs.length cap] w fun e w' => ∃ v', e = .returned v' ∧ w'.ownsRow w.heap.size 3 1 v' xs.length (xs.map (Value.int .i64)) ∧ Below w.heap.size w w' := by
  refine (Any.slices_Clone_int Try.lays15 b off xs.length cap xs w (Nat.le_refl _) (by omega) hc).mono ?_
  rintro e w' ⟨v', h1, h2, _, h3⟩
  rw [List.take_length] at h2
  exact ⟨v', h1, h2, h3⟩

/-- Sorting a row of one's own: only that row turns. -/
theorem sort_row {w : World} {base : Nat} {v : Value} {ss : List Int} (ho : w.ownsRow base 3 1 v ss.length (ss.map (Value.int .i64))) (h0 : 0 < ss.length) (hl : ss.length ≤ 1048576) :
    Calls Try.prog 36 #[v] w fun e w' => e = .returned (.tuple #[]) ∧ w'.ownsRow base 3 1 v ss.length ((srt ss).map (Value.int .i64)) ∧ w.grownBy w' v.ownBlock := by
  rcases ho.2 with ⟨rfl, e⟩ | ⟨g, cap, cur, rfl, hg0, hg, hn, hm, hcs, ht⟩
  · omega
  · have hglt := (Array.getElem?_eq_some_iff.1 hg).1
    refine (Any.slices_Sort_int Try.lays189 g 0 cap ss w (holds_of_block_i hg (by rw [Nat.mul_one] at ht; exact ht)) hglt (by omega)).mono ?_
    rintro e w' ⟨he, n, os, rfl⟩
    refine ⟨he, ?_⟩
    have hs : (ss.mergeSort fun x y => decide (x ≤ y)).length = ss.length := by simp
    have how := ownsRow_sorted_i (n := n) (os := os) hs hg0 hg hn hm (by omega)
    have hgr : w.grownBy _ (some g) := grownBy_sorted_i (n := n) (os := os) (w := w) (g := g) (ss.mergeSort fun x y => decide (x ≤ y)).toArray
    exact ⟨how, by simpa [Value.ownBlock] using hgr⟩

theorem owns_cell {w : World} {base : Nat} {v : Value} {xs : List Value} {ao : Option Addr} {n cap : Nat} (h : w.ownsRow base 3 1 v n xs) (hv : v = .slice ao n cap) {j : Nat} {u : Value} (hj : xs[j]? = some u) (hn : xs.length = n) : ∃ g, v = .slice (some ⟨g, 0, none⟩) n cap ∧ w.cell? ⟨g, j, none⟩ = some u ∧ base ≤ g := by
  rcases h.2 with ⟨rfl, e⟩ | ⟨g, cap', cur, rfl, hg0, hg, hn', hm, hcs, ht⟩
  · have := (List.getElem?_eq_some_iff.1 hj).1; omega
  · cases hv
    refine ⟨g, rfl, ?_, hg0⟩
    rw [cell_at hg]
    have hl := (List.getElem?_eq_some_iff.1 hj).1
    rw [← ht] at hj
    rw [List.getElem?_take] at hj
    split at hj
    · simpa using hj
    · cases hj

def pnt (n : Int) (xs : List Int) : Int := (srt xs).getD (n - maj n).toNat 0

theorem Point_bad {w : World} {n : Int} {ao : Option Addr} {len cap : Nat} (h : fl n = false ∨ (len : Int) ≠ n) : Calls Try.prog 12 #[.int .i64 n, .slice ao len cap] w fun e w' => e = .returned (.tuple #[.int .i64 0, .int .i64 40]) ∧ w' = w := by
  cases hf : fl n with
  | false =>
    clear h
    go_enter Try.func12, Try.ntmps12
    go_wp2_with fail
    refine (fleet_any n).mono ?_
    rintro e w1 ⟨rfl, rfl⟩
    rw [hf]
    go_wp2
    go_ret2
    exact ⟨rfl, rfl⟩
  | true =>
    have hn : ¬ (len : Int) = n := by rcases h with h | h; (rw [hf] at h; cases h); exact h
    have hn' : ((len : Int) != n) = true := by simp [hn]
    clear h
    go_enter Try.func12, Try.ntmps12
    go_wp2_with fail
    refine (fleet_any n).mono ?_
    rintro e w1 ⟨rfl, rfl⟩
    rw [hf]
    go_wp2
    go_ret2
    exact ⟨rfl, rfl⟩

theorem clone_n {w : World} {b off cap n : Nat} {xs : List Int} (hn : xs.length = n) (hs : n ≤ 1048576) (hc : ∀ j, j < xs.length → w.cell? ⟨b, off + j, none⟩ = some (.int .i64 (xs.getD j 0))) :
    Calls Try.prog 35 #[.slice (some ⟨b, off, none⟩) n cap] w fun e w' => ∃ g cap', e = .returned (.slice (some ⟨g, 0, none⟩) n cap') ∧ w.heap.size ≤ g ∧ w'.ownsRow w.heap.size 3 1 (.slice (some ⟨g, 0, none⟩) n cap') n (xs.map (Value.int .i64)) ∧ Below w.heap.size w w' := by
  subst hn
  refine (Any.slices_Clone_int Try.lays15 b off xs.length cap xs w (Nat.le_refl _) (by omega) hc).mono ?_
  rintro e w' ⟨v', h1, h2, hne, h3⟩
  rw [List.take_length] at h2
  rcases h2.2 with ⟨rfl, _⟩ | ⟨g, cap', cur, rfl, hg0, _⟩
  · exact absurd rfl hne
  · exact ⟨g, cap', h1, hg0, h2, h3⟩

theorem pnt_get {n j : Nat} {xs : List Int} (hn : xs.length = n) (hj : ((n : Int) - maj n).toNat = j) (hl : j < n) : ((srt xs).map (Value.int .i64))[j]? = some (.int .i64 (pnt n xs)) := by
  have hl' : j < (srt xs).length := by rw [srt_len]; omega
  rw [List.getElem?_map, List.getElem?_eq_getElem hl', pnt, hj, List.getD, List.getElem?_eq_getElem hl']
  rfl

set_option maxRecDepth 1000000 in
theorem Point_ok {w : World} {n b off cap : Nat} {xs : List Int} (hf : fl n = true) (hn : xs.length = n) (hc : ∀ j, j < xs.length → w.cell? ⟨b, off + j, none⟩ = some (.int .i64 (xs.getD j 0))) :
    Calls Try.prog 12 #[.int .i64 n, .slice (some ⟨b, off, none⟩) n cap] w fun e w' => e = .returned (.tuple #[.int .i64 (pnt n xs), .int .i64 0]) ∧ Below w.heap.size w w' := by
  have C := hid hc
  have L := hid hn
  obtain ⟨j, hj, hjn, hm⟩ : ∃ j, Hid (((n : Int) - maj n).toNat = j) ∧ j < n ∧ maj n = n - j := by
    rcases fl_cases hf with h | h | h
    · obtain rfl : n = 3 := by omega
      exact ⟨1, hid rfl, by omega, rfl⟩
    · obtain rfl : n = 5 := by omega
      exact ⟨2, hid rfl, by omega, rfl⟩
    · obtain rfl : n = 7 := by omega
      exact ⟨3, hid rfl, by omega, rfl⟩
  have h7 : n ≤ 7 := by rcases fl_cases hf with h | h | h <;> omega
  clear hc hn
  go_enter Try.func12, Try.ntmps12
  go_wp2_with fail
  refine (fleet_any _).mono ?_
  rintro e w1 ⟨rfl, rfl⟩
  rw [hf]
  go_wp2_with fail
  refine (clone_n L.out (by omega) C.out).mono ?_
  rintro e w2 ⟨g, cap', rfl, hg, ho, hB⟩
  have O := hid ho
  have B := hid hB
  clear ho hB
  go_wp2_with fail
  have l1 := L.out
  have := O.out
  rw [← l1] at this
  refine ((sort_row (ss := xs) (by rw [l1]; rw [l1] at this; exact this) (by omega) (by omega)).mono ?_)
  rintro e w3 ⟨rfl, ho3, hg3⟩
  rw [l1] at ho3
  obtain ⟨g', hv, c3, _⟩ := owns_cell ho3 rfl (pnt_get L.out hj.out hjn) (by rw [List.length_map, srt_len, l1])
  cases hv
  have hB3 : Below w1.heap.size w1 w3 := B.out.grown hg3 B.out.size (by intro k hk; simp [Value.ownBlock] at hk; omega)
  have hj' : (n : Int) - (n - j) = j := by omega
  have B := hid hB3
  clear ho3 hg3 this O hB3
  have l1 := hid l1
  go_wp2_with fail
  refine (Majority_any _).mono ?_
  rintro e w4 ⟨rfl, rfl⟩
  rw [hm]
  go_wp2
  go_ret2
  exact ⟨rfl, B.out⟩
end Go.Proofs.Ytmpbdncgilahkaa
