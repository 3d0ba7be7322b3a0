import Derived.Test.YtkcepkehgkkkbabDoorDel
import Derived.Test.YtkcepkehgkkkbabDoorSLay
import Derived.Sort.OwnSorted
namespace Go.Proofs.YtkcepkehgkkkbabDoor
open Go.RowKit Go.Sort
set_option linter.unusedVariables false

set_option maxRecDepth 1000000 in
theorem ins_nil {w : World} : Calls Tryd.prog 77 #[.slice none 0 0, .int .i64 0, .int .i64 0] w fun e w' => e = .returned (.tuple #[]) ∧ w' = w := by
  go_enter Tryd.func77, Tryd.ntmps77
  go_wp2
  refine wp_loop_rounds 1 ?_
  rw [rounds_succ]
  go_wp2
  go_end0
  exact ⟨rfl, rfl⟩

set_option maxRecDepth 1000000 in
theorem pdq_nil {w : World} (lim : Int) : Calls Tryd.prog 71 #[.slice none 0 0, .int .i64 0, .int .i64 0, .int .i64 lim] w fun e w' => e = .returned (.tuple #[]) ∧ w' = w := by
  go_enter Tryd.func71, Tryd.ntmps71
  go_wp2_with fail
  refine wp_loop_rounds 1 ?_
  rw [rounds_succ]
  go_wp2_with fail
  refine ins_nil.mono ?_
  rintro e w1 ⟨rfl, rfl⟩
  go_wp2
  (try simp only [Exit.inBlock, Exit.then])
  refine bodyPost_ret (results_none rfl _ _ _) rfl ?_
  exact ⟨rfl, rfl⟩

set_option maxRecDepth 1000000 in
theorem len0 {w : World} : Calls Tryd.prog 57 #[.int .u64 0] w fun e w' => ∃ n, e = .returned (.int .i64 n) ∧ w' = w := by
  go_enter Tryd.func57, Tryd.ntmps57
  go_wp2
  go_ret
  exact ⟨_, rfl, rfl⟩

set_option maxRecDepth 1000000 in
theorem sort_nil {w : World} : Calls Tryd.prog 60 #[.slice none 0 0] w fun e w' => e = .returned (.tuple #[]) ∧ Below w.heap.size w w' := by
  go_enter Tryd.func60, Tryd.ntmps60
  go_wp2_with fail
  refine len0.mono ?_
  rintro e w1 ⟨n, rfl, rfl⟩
  go_wp2_with fail
  refine (pdq_nil n).mono ?_
  rintro e w1 ⟨rfl, rfl⟩
  go_wp2
  go_end0
  exact ⟨rfl, Below.refl _ _⟩

/-- A row of texts of one's own, put in order. -/
theorem sort_own {w : World} {v : Value} {ss : List (List UInt8)} {cs : List Comp} (h : All (ownC 9 v (ss.map Go.Proofs.encStr) :: cs) w) (hl : ss.length ≤ 1048576) : Calls Tryd.prog 60 #[v] w fun e w' => e = .returned (.tuple #[]) ∧ All (ownC 9 v ((ss.mergeSort fun x y => decide (x ≤ y)).map Go.Proofs.encStr) :: cs) w' := by
  have ho : w.ownsRow 0 9 1 v (ss.map Go.Proofs.encStr).length (ss.map Go.Proofs.encStr) := h.1.2.1
  rcases ho.2 with ⟨rfl, e⟩ | ⟨g, cap, cur, rfl, hg0, hg, hn, hm, hcs, ht⟩
  · have hnil : ss = [] := by
      have : ss.length = 0 := by simpa using e
      exact List.eq_nil_of_length_eq_zero this
    subst hnil
    exact sort_nil.mono fun e w' ⟨he, hb⟩ => ⟨he, by simpa using h.later hb⟩
  · rw [List.length_map] at hn ht ⊢
    have hglt := (Array.getElem?_eq_some_iff.1 hg).1
    refine (Any.slices_Sort_string Tryd.lays190 g 0 cap ss w (holds_of_block hg (by rw [Nat.mul_one] at ht; exact ht)) hglt (by omega)).mono ?_
    rintro e w' ⟨he, n, os, rfl⟩
    refine ⟨he, ?_⟩
    have hs : (ss.mergeSort fun x y => decide (x ≤ y)).length = ss.length := by simp
    have how := ownsRow_sorted (n := n) (os := os) hs (Nat.zero_le g) hg hn hm (by omega)
    have hgr : w.grownBy _ (some g) := grownBy_sorted (n := n) (os := os) (w := w) (g := g) (ss.mergeSort fun x y => decide (x ≤ y)).toArray
    refine h.ownGrow (base := 0) (by rw [List.length_map, hs]; exact how) (by simpa [Value.ownBlock] using hgr) (Or.inl rfl)
end Go.Proofs.YtkcepkehgkkkbabDoor
