import Derived.Test.YtmpbdncgilahkaaNum
namespace Go.Proofs.Ytmpbdncgilahkaa
open Go.RowKit
set_option linter.unusedVariables false

def pk (c n : Int) : Int := (if c < 0 then -(c + 1) else c) % n
theorem pk_nn {c n : Int} (hn : 0 < n) : 0 ≤ pk c n := Int.emod_nonneg _ (by omega)
theorem pk_lt {c n : Int} (hn : 0 < n) : pk c n < n := Int.emod_lt_of_pos _ hn

theorem pick_any {w : World} {c n : Int} (h1 : -9223372036854775808 ≤ c) (h2 : c < 9223372036854775808) (hn : 0 < n) (hn2 : n < 9223372036854775808) :
    Calls Try.prog 20 #[.int .i64 c, .int .i64 n] w fun e w' => e = .returned (.int .i64 (pk c n)) ∧ w' = w := by
  by_cases hc : c < 0
  · have e : pk c n = (-(c + 1)) % n := by simp [pk, hc]
    have hnn : ¬ n = 0 := by omega
    have hm : (-(c + 1)).tmod n = (-(c + 1)) % n := Int.tmod_eq_emod_of_nonneg (by omega)
    have b1 := Int.emod_nonneg (-(c + 1)) hnn
    have b2 := Int.emod_lt_of_pos (-(c + 1)) hn
    rw [e]
    clear e
    go_enter Try.func20, Try.ntmps20
    go_wp2
    go_ret
    exact ⟨rfl, rfl⟩
  · have e : pk c n = c % n := by simp [pk, hc]
    have hnn : ¬ n = 0 := by omega
    have hm : c.tmod n = c % n := Int.tmod_eq_emod_of_nonneg (by omega)
    have b1 := Int.emod_nonneg c hnn
    have b2 := Int.emod_lt_of_pos c hn
    rw [e]
    clear e
    go_enter Try.func20, Try.ntmps20
    go_wp2
    go_ret
    exact ⟨rfl, rfl⟩

theorem pick_one {w : World} (x : Int) : Calls Try.prog 20 #[.int .i64 (IntKind.i64.wrap x), .int .i64 1] w fun e w' => e = .returned (.int .i64 0) ∧ w' = w := by
  have h := @pick_any w (IntKind.i64.wrap x) 1 (by rw [IntKind.wrap_i64]; omega) (by rw [IntKind.wrap_i64]; omega) (by omega) (by omega)
  rw [show pk (IntKind.i64.wrap x) 1 = 0 by simp [pk, Int.emod_one]] at h
  exact h
end Go.Proofs.Ytmpbdncgilahkaa
