import Derived.Test.YtmpbdncgilahkaaShown
import Derived.Test.YtmpbdncgilahkaaPick
import Derived.Laws.MakeOwn
import Derived.Deep.DeepCutAuto
namespace Go.Proofs.Ytmpbdncgilahkaa
open Go.RowKit
set_option linter.unusedVariables false

/-- Who of n stands among k that follow one another from p on. -/
def among (p n k : Nat) (i : Nat) : Bool := (List.range k).any fun k' => (p + k') % n == i
def amongL (p n k : Nat) : List Bool := (List.range n).map (among p n k)
abbrev bools (bs : List Bool) : List Value := bs.map Value.bool

theorem amongL_len (p n k : Nat) : (amongL p n k).length = n := by simp [amongL]
theorem amongL_zero (p n : Nat) : amongL p n 0 = List.replicate n false := by
  apply List.ext_getElem
  · simp [amongL]
  · intro i h1 h2
    simp [amongL, among]
theorem amongL_at {p n k i : Nat} (h : i < n) : (amongL p n k)[i]? = some (among p n k i) := by
  simp [amongL, h]
theorem amongL_set {p n k : Nat} (hn : 0 < n) : (amongL p n k).set ((p + k) % n) true = amongL p n (k + 1) := by
  apply List.ext_getElem
  · simp [amongL]
  · intro i h1 h2
    simp [amongL] at h1
    rw [List.getElem_set]
    simp only [amongL, List.getElem_map, List.getElem_range, among, List.range_succ, List.any_append, List.any_cons, List.any_nil, Bool.or_false]
    by_cases h : (p + k) % n = i
    · simp [h]
    · simp [h]
theorem bools_set (bs : List Bool) (i : Nat) (b : Bool) : (bools bs).set i (.bool b) = bools (bs.set i b) := by simp [bools, List.map_set]

/-- Two majorities meet. -/
theorem meets : ∀ n ∈ [3, 5, 7], ∀ p < n, ∀ q < n, (List.range n).any (fun i => among p n ((n - 1) / 2 + 1) i && among q n ((n - 1) / 2 + 1) i) = true := by decide +kernel
/-- Views that follow one another. -/
theorem leads : ∀ n ∈ [3, 5, 7], ∀ p < n, ∀ k < n, among p n k ((p + k) % n) = false := by decide +kernel
theorem among_mod {p n k i : Nat} : among (p % n) n k i = among p n k i := by
  simp [among, Nat.add_mod]

theorem make_bools {w : World} (n : Nat) (hn : n ≤ 7) : (Instr.makeSlice 34 (.int .i64 n) (.int .i64 n)).run Try.prog w = .ok (.slice (some ⟨w.heap.size, 0, none⟩) n n) (w.alloc (.cells (bools (List.replicate n false)).toArray 4)) := by
  obtain ⟨i0, hi, hz0, hz1, hz2⟩ := info_parts (show (Try.prog.info? 4).map (fun i => (i.zero, i.size, i.bytes)) = some (some (.bool false), 1, 1) by kernel_rfl)
  have h := run_make (P := Try.prog) w 34 4 i0 (.bool false) Try.underlying34 hi hz0 .i64 .i64 n n (by omega) (by omega) (by rw [hz2]; omega) (by omega)
  have e : madeCells (Value.bool false).cells (n * 1) = (bools (List.replicate n false)).toArray := by
    rw [Nat.mul_one]
    apply Array.ext
    · simp [size_madeCells, bools]
    · intro i h1 h2
      simp [madeCells, bools, Value.cells, Nat.mod_one]
  rw [hz1, Int.toNat_natCast, e] at h
  exact h

def both (p q n k i : Nat) : Bool := (List.range i).any fun j => among p n k j && among q n k j
theorem both_succ (p q n k i : Nat) : both p q n k (i + 1) = (both p q n k i || (among p n k i && among q n k i)) := by
  simp [both, List.range_succ, List.any_append]
theorem both_all {p q n m : Nat} (h3 : n = 3 ∨ n = 5 ∨ n = 7) (hm : m = (n - 1) / 2 + 1) (hp : p < n) (hq : q < n) : both p q n m n = true := by
  rw [hm]
  exact meets n (by simpa using h3) p hp q hq
theorem led_free {v n j : Nat} (h3 : n = 3 ∨ n = 5 ∨ n = 7) (hj : j < n) : among v n j ((v + j) % n) = false := by
  have h0 : 0 < n := by omega
  have := leads n (by simpa using h3) (v % n) (Nat.mod_lt _ h0) j hj
  rw [among_mod] at this
  rw [show (v % n + j) % n = (v + j) % n by simp [Nat.add_mod]] at this
  exact this

theorem made_bools {w : World} (n : Nat) (hn : n ≤ 7) : ∃ wz, (Instr.makeSlice 34 (.int .i64 n) (.int .i64 n)).run Try.prog w = .ok (.slice (some ⟨w.heap.size, 0, none⟩) n n) wz ∧ Below w.heap.size w wz ∧ wz.heap[w.heap.size]? = some (.cells (bools (List.replicate n false)).toArray 4 (0, 0)) :=
  ⟨_, make_bools n hn, ba _ _, heap_alloc_new _ _⟩
end Go.Proofs.Ytmpbdncgilahkaa
