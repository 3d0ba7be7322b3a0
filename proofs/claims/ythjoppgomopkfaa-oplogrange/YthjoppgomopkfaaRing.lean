import Derived.Test.YthjoppgomopkfaaEnt
namespace Go.Proofs.Ythjoppgomopkfaa
open Go.RowKit
set_option linter.unusedVariables false

theorem room_any {w : World} (ao : Option Addr) (n c : Nat) : Calls Try.prog 37 #[.agg #[.slice ao n c]] w fun e w' => e = .returned (.int .i64 (n : Int)) ∧ Below w.heap.size w w' := by
  go_enter Try.func37, Try.ntmps37
  go_wp2
  go_ret
  exact ⟨rfl, ba w _⟩

theorem mod_lt64 {k n : Nat} (hn : 0 < n) (h : n ≤ 64) : k % n < 64 := by
  have := Nat.mod_lt k hn
  omega

set_option maxRecDepth 1000000 in
theorem place_any {w : World} (ao : Option Addr) (n c k : Nat) (hn : 0 < n) (hn' : n ≤ 64) (hk : k ≤ 1099511627776) : Calls Try.prog 48 #[.agg #[.slice ao n c], .int .i64 (k : Int)] w fun e w' => e = .returned (.int .i64 ((k % n : Nat) : Int)) ∧ Below w.heap.size w w' := by
  have h0 : (n : Int) ≠ 0 := by omega
  have e0 : ((n : Int) == 0) = false := by simp; omega
  have hm := mod_lt64 (k := k) hn hn'
  go_enter Try.func48, Try.ntmps48
  go_wp2
  go_ret
  exact ⟨by go_num, ba w _⟩
end Go.Proofs.Ythjoppgomopkfaa
