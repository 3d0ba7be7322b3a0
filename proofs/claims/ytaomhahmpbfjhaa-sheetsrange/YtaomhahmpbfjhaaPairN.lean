import Derived.Test.YtaomhahmpbfjhaaPairC
namespace Go.Proofs.Ytaomhahmpbfjhaa
open Go.RowKit
set_option linter.unusedVariables false
attribute [local go_sem] run_store_func Oper.semAt_some

theorem res4' {tmps : Array Value} {w : World} {b : Nat} {v : Bool} (ht : tmps.getD 8 undef = .pointer (some ⟨b, 0, none⟩)) (hc : w.cell? ⟨b, 0, none⟩ = some (.bool v)) : (results Try.f4 tmps).run Try.prog w = .ok (.bool v) w := by
  have hp' : tmps[8]?.getD undef = .pointer (some ⟨b, 0, none⟩) := by simpa using ht
  have hres : Try.f4.results = #[.cell 8 4] := rfl
  simp only [results, hres]
  go_simp

theorem rNew_bad {w : World} {n : Int} (hb : n < 1 ∨ n > 64) : Calls Try.prog 8 #[.int .i64 n] w fun e w' => e = .returned (.tuple #[.pointer none, .int .i64 60]) ∧ w' = w := by
  by_cases h1 : n < 1
  · have d1 : decide (n < 1) = true := by simpa using h1
    clear hb
    go_enter Try.func8, Try.ntmps8
    go_wp2
    go_ret2
    exact ⟨rfl, rfl⟩
  · have d1 : decide (n < 1) = false := by simpa using h1
    have d2 : n > 64 := by omega
    clear hb
    go_enter Try.func8, Try.ntmps8
    go_wp2
    go_ret2
    exact ⟨rfl, rfl⟩

set_option maxRecDepth 100000 in
set_option maxHeartbeats 4000000 in
theorem range_bad {w : World} {n : Int} {ao ao2 : Option Addr} {xl c zl c2 : Nat} {at_ : Int} (hb : n < 1 ∨ n > 64) : Calls Try.prog 4 #[.int .i64 n, .slice ao xl c, .slice ao2 zl c2, .int .i64 at_] w fun e w' => e = .returned (.bool true) ∧ Below w.heap.size w w' := by
  have A3 := (((All.came w).addBlk [.slice ao2 zl c2] 22).addBlk [.int .i64 at_] 3).addBlk [.bool false] 4
  simp only [World.size_alloc] at A3
  have HA := hid A3
  have HB := hid hb
  clear A3 hb
  refine (callsIn_wide (n := 20)).1 ?_
  refine callsIn_of_wp_marks Try.func4 rfl trivial ?_ rfl
  simp only [Try.ntmps4, List.size_toArray, List.length_cons, List.length_nil, Nat.reduceAdd, Nat.reduceSub, Array.replicate_succ, Array.replicate_zero, List.push_toArray, List.append_toArray, List.nil_append, List.cons_append]
  gi_wp2
  refine ⟨trivial, (callsIn_wide.2 (New_bad HB.out)).mono ?_⟩
  rintro e w1 ⟨rfl, hw1⟩
  have HA1 : Hid (All [blkC (w.heap.size + 1 + 1) [.bool false] 4, blkC (w.heap.size + 1) [.int .i64 at_] 3, blkC w.heap.size [.slice ao2 zl c2] 22, inC w] w1) := hid (by rw [hw1]; exact HA.out)
  clear hw1 HA
  gi_wp2
  refine ⟨trivial, (callsIn_wide.2 (rNew_bad HB.out)).mono ?_⟩
  rintro e w2 ⟨rfl, rfl⟩
  have A2 := hid ((HA1.out.addBlk [.pointer none] 23).addBlk [.pointer none] 27)
  simp only [World.size_alloc] at A2
  have eR : ((w1.alloc (.cells #[.pointer none] 23)).alloc (.cells #[.pointer none] 27)).heap[w.heap.size + 1 + 1]? = some (.cells [.bool false].toArray 4 (0, 0)) := A2.out.blk (by simp)
  have cR : ((w1.alloc (.cells #[.pointer none] 23)).alloc (.cells #[.pointer none] 27)).cell? ⟨w.heap.size + 1 + 1, 0, none⟩ = some (.bool false) := by rw [cell_at eR]; rfl
  have fR : ((w1.alloc (.cells #[.pointer none] 23)).alloc (.cells #[.pointer none] 27)).frozen? ⟨w.heap.size + 1 + 1, 0, none⟩ = false := free_at eR 0
  clear eR HA1
  gi_wp2
  have A3 := (A2.out.perm ((List.Perm.swap _ _ _).trans ((List.Perm.cons _ (List.Perm.swap _ _ _)).trans (List.Perm.swap _ _ _)))).setBlk 0 (.bool true)
  refine ⟨_, res4' (b := w.heap.size + 1 + 1) (v := true) rfl (by rw [cell_at A3.1.2.1]; rfl), rfl, A3.into (by simp)⟩
end Go.Proofs.Ytaomhahmpbfjhaa
