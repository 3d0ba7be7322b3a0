import Derived.Test.YtaomhahmpbfjhaaSee
namespace Go.Proofs.Ytaomhahmpbfjhaa
open Go.RowKit Go.Shelf Go.Sort
set_option linter.unusedVariables false

set_option maxHeartbeats 4000000 in
theorem see41_not {W : World} {T Ba By k lv a : Nat} {N : Nodes} (hV : View W T 0 lv N) (hBa : W.cell? ⟨Ba, 0, none⟩ = some (.int .i64 (a : Int))) (hk : k < 128) (h : k < lv ∨ (N k).1 ≤ a) :
    Calls Try.prog 41 #[.int .i64 (k : Int), .pointer (some ⟨T, 0, none⟩), .pointer (some ⟨Ba, 0, none⟩), .pointer (some ⟨By, 0, none⟩)] W fun e W' => e = .returned (.bool true) ∧ ∃ q, W' = W.drewN q := by
  obtain ⟨p, n1, n2, n3, n4⟩ := hV.node k hk
  have ND := hid (node_any hk n1)
  have hL := hV.leaves
  have LF := hid (fun m => callsIn_wide (n := 2).2 ((isLeaf_any (k := k) (w := W.drewN m) hL).mono (fun e w' h => (⟨h.1, m, h.2⟩ : _ ∧ ∃ m', w' = W.drewN m'))))
  by_cases hc : lv ≤ k
  · have ha : (N k).1 ≤ a := by omega
    have d0 : decide (lv ≤ k) = true := by simpa using hc
    rw [d0] at LF
    have d3 : decide ((N k).1 ≤ a) = true := by simpa using ha
    generalize (N k).1 = x at *
    generalize k % 8 * 2 = r at *
    clear hV n1 n3 n4 hk h ha hc d0
    refine (callsIn_wide (n := 3)).1 (callsIn_of_wp Try.func41 rfl trivial ?_ rfl)
    simp only [Try.ntmps41, List.size_toArray, List.length_cons, List.length_nil, Nat.reduceAdd, Nat.reduceSub, Array.replicate_succ, Array.replicate_zero, List.push_toArray, List.append_toArray, List.nil_append, List.cons_append]
    gi_wp2
    refine ⟨trivial, (callsIn_wide.2 ND.out).mono ?_⟩
    rintro e w' ⟨rfl, hw'⟩
    subst hw'
    have wfa : ∀ f, Fence.wide.fn f = True := fun _ => rfl
    gi_wp2
    refine wpIn_region_quiet_lit rfl (by kernel_rfl) (by kernel_rfl) ?_
    repeat (quiet_step_in (first | with_reducible exact LF.out _ ))
    refine wpQuietIn_nil ?_
    rintro w2 ⟨nq, rfl⟩
    clear wfa LF ND n2 hL hBa
    gi_wp2
    refine bodyPost_ret (results_tmp rfl _ _ _) rfl ?_
    exact ⟨rfl, _, rfl⟩
  · have d0 : decide (lv ≤ k) = false := by simpa using hc
    rw [d0] at LF
    generalize k % 8 * 2 = r at *
    clear hV n1 n3 n4 hk h hc d0
    refine (callsIn_wide (n := 3)).1 (callsIn_of_wp Try.func41 rfl trivial ?_ rfl)
    simp only [Try.ntmps41, List.size_toArray, List.length_cons, List.length_nil, Nat.reduceAdd, Nat.reduceSub, Array.replicate_succ, Array.replicate_zero, List.push_toArray, List.append_toArray, List.nil_append, List.cons_append]
    gi_wp2
    refine ⟨trivial, (callsIn_wide.2 ND.out).mono ?_⟩
    rintro e w' ⟨rfl, hw'⟩
    subst hw'
    have wfa : ∀ f, Fence.wide.fn f = True := fun _ => rfl
    gi_wp2
    refine wpIn_region_quiet_lit rfl (by kernel_rfl) (by kernel_rfl) ?_
    repeat (quiet_step_in (first | with_reducible exact LF.out _ ))
    refine wpQuietIn_nil ?_
    rintro w2 ⟨nq, rfl⟩
    clear wfa LF ND n2 hL hBa
    gi_wp2
    refine bodyPost_ret (results_tmp rfl _ _ _) rfl ?_
    exact ⟨rfl, _, rfl⟩

end Go.Proofs.Ytaomhahmpbfjhaa
