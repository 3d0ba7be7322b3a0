import Derived.Test.YtkaigmoeagjjgaaBas
import Derived.Test.YtkaigmoeagjjgaaSLay
import Derived.Sort.OwnSorted
import Derived.Lib.SlKeysI
namespace Go.Proofs.Ytkaigmoeagjjgaa
open Go.RowKit Go.Sort
set_option linter.unusedVariables false

set_option maxRecDepth 1000000 in
theorem ins_none {w : World} (p : Option Addr) (cap : Nat) : Calls Try.prog 54 #[.slice p 0 cap, .int .i64 0, .int .i64 0] w fun e w' => e = .returned (.tuple #[]) ∧ w' = w := by
  go_enter Try.func54, Try.ntmps54
  go_wp2
  refine wp_loop_rounds 1 ?_
  rw [rounds_succ]
  go_wp2
  go_end0
  exact ⟨rfl, rfl⟩

set_option maxRecDepth 1000000 in
theorem pdq_none {w : World} (p : Option Addr) (cap : Nat) (lim : Int) : Calls Try.prog 50 #[.slice p 0 cap, .int .i64 0, .int .i64 0, .int .i64 lim] w fun e w' => e = .returned (.tuple #[]) ∧ w' = w := by
  go_enter Try.func50, Try.ntmps50
  go_wp2_with fail
  refine wp_loop_rounds 1 ?_
  rw [rounds_succ]
  go_wp2_with fail
  refine (ins_none p cap).mono ?_
  rintro e w1 ⟨rfl, rfl⟩
  go_wp2
  (try simp only [Exit.inBlock, Exit.then])
  refine bodyPost_ret (results_none rfl _ _ _) rfl ?_
  exact ⟨rfl, rfl⟩

set_option maxRecDepth 1000000 in
theorem len0 {w : World} : Calls Try.prog 51 #[.int .u64 0] w fun e w' => ∃ n, e = .returned (.int .i64 n) ∧ w' = w := by
  go_enter Try.func51, Try.ntmps51
  go_wp2
  go_ret
  exact ⟨_, rfl, rfl⟩

set_option maxRecDepth 1000000 in
theorem sort_none (p : Option Addr) (cap : Nat) (w : World) : Calls Try.prog 46 #[.slice p 0 cap] w fun e w' => e = .returned (.tuple #[]) ∧ w' = w := by
  go_enter Try.func46, Try.ntmps46
  go_wp2_with fail
  refine len0.mono ?_
  rintro e w1 ⟨n, rfl, rfl⟩
  go_wp2_with fail
  refine (pdq_none p cap n).mono ?_
  rintro e w1 ⟨rfl, rfl⟩
  go_wp2
  go_end0
  exact ⟨rfl, rfl⟩

def srt (xs : List Int) : List Int := xs.mergeSort fun x y => decide (x ≤ y)
theorem srt_len (xs : List Int) : (srt xs).length = xs.length := by simp [srt]
theorem srt_perm (xs : List Int) : (srt xs).Perm xs := List.mergeSort_perm _ _
theorem srt_sorted (xs : List Int) : (srt xs).Pairwise (· ≤ ·) := by
  have h := List.pairwise_mergeSort (le := fun x y : Int => decide (x ≤ y)) (fun a b c h1 h2 => by simp at *; omega) (fun a b => by simp; omega) xs
  exact h.imp (fun h => by simpa using h)

/-- A row of numbers of one's own, put in order. -/
theorem sort_own {w : World} {v : Value} {ss : List Int} {cs : List Comp} (h : All (ownC 3 v (ints ss) :: cs) w) (hl : ss.length ≤ 1048576) : Calls Try.prog 46 #[v] w fun e w' => e = .returned (.tuple #[]) ∧ All (ownC 3 v (ints (srt ss)) :: cs) w' := by
  have ho : w.ownsRow 0 3 1 v (ints ss).length (ints ss) := h.1.2.1
  rcases ho.2 with ⟨rfl, e⟩ | ⟨g, cap, cur, rfl, hg0, hg, hn, hm, hcs, ht⟩
  · have hnil : ss = [] := by
      have : ss.length = 0 := by simpa using e
      exact List.eq_nil_of_length_eq_zero this
    subst hnil
    exact (sort_none _ _ _).mono fun e w' ⟨he, hb⟩ => ⟨he, by subst hb; simpa [srt] using h⟩
  · rw [List.length_map] at hn ht ⊢
    have hglt := (Array.getElem?_eq_some_iff.1 hg).1
    refine (Any.slices_Sort_int Try.lays189 g 0 cap ss w (holds_of_block_i hg (by rw [Nat.mul_one] at ht; exact ht)) hglt (by omega)).mono ?_
    rintro e w' ⟨he, n, os, rfl⟩
    refine ⟨he, ?_⟩
    have hs : (ss.mergeSort fun x y => decide (x ≤ y)).length = ss.length := by simp
    have how := ownsRow_sorted_i (n := n) (os := os) hs (Nat.zero_le g) hg hn hm (by omega)
    have hgr : w.grownBy _ (some g) := grownBy_sorted_i (n := n) (os := os) (w := w) (g := g) (ss.mergeSort fun x y => decide (x ≤ y)).toArray
    refine h.ownGrow (base := 0) (by rw [List.length_map, srt_len]; exact how) (by simpa [Value.ownBlock] using hgr) (Or.inl rfl)
end Go.Proofs.Ytkaigmoeagjjgaa
