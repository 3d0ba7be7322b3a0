import Derived.Test.YthjoppgomopkfaaAppE
namespace Go.Proofs.Ythjoppgomopkfaa
open Go.RowKit
set_option linter.unusedVariables false

def wrap64 (z : Int) : Int := (z + 9223372036854775808) % 18446744073709551616 - 9223372036854775808

theorem among_any {w : World} (i : Int) (n : Nat) (h1 : 1 ≤ n) (h2 : n ≤ 4611686018427387904) : Calls Try.prog 8 #[.int .i64 i, .int .i64 (n : Int)] w fun e w' => ∃ m : Nat, m < n ∧ e = .returned (.int .i64 (m : Int)) ∧ w' = w := by
  have hlt : i.tmod n < n := Int.tmod_lt_of_pos _ (by omega)
  have hgt : -(n : Int) < i.tmod n := by
    have := Int.lt_tmod_of_pos i (b := (n : Int)) (by omega)
    omega
  by_cases h0 : i.tmod n < 0
  · have hw : wrap64 (i.tmod n + n) = i.tmod n + n := by unfold wrap64; omega
    go_enter Try.func8, Try.ntmps8
    go_wp2
    go_ret
    exact ⟨(i.tmod n + n).toNat, by omega, by rw [Int.toNat_of_nonneg (by omega)]; rfl, rfl⟩
  · go_enter Try.func8, Try.ntmps8
    go_wp2
    go_ret
    exact ⟨(i.tmod n).toNat, by omega, by rw [Int.toNat_of_nonneg (by omega)]; rfl, rfl⟩

set_option maxHeartbeats 800000 in
set_option maxRecDepth 1000000 in
theorem same_eq {w : World} {s t : Value} {l : List Ent} (hs : EntsW w s l) (ht : EntsW w t l) (hl : l.length ≤ 4611686018427387904) : Calls Try.prog 29 #[s, t] w fun e w' => e = .returned (.bool true) ∧ ∃ q, w' = w.drewN q := by
  obtain ⟨ao, c, rfl, h1, _, h3⟩ := hs
  obtain ⟨bo, d, rfl, k1, _, k3⟩ := ht
  have H3 := hid h3
  have K3 := hid k3
  clear h3 k3
  have hne : ((l.length : Int) != (l.length : Int)) = false := by simp
  go_enter Try.func29, Try.ntmps29
  go_wp2
  go_loopw [13] (fun iv wr => ∃ i : Nat, i ≤ l.length ∧ iv = .int .i64 (i : Int) ∧ ∃ q, wr = w.drewN q) (fun iv _ => l.length - (intOf iv).toNat)
  case atStart => exact ⟨0, by omega, rfl, 0, rfl⟩
  case round =>
    obtain ⟨i, hi, rfl, q, rfl⟩ := hrel
    by_cases hlt : i < l.length
    · have m1 : decide ((i : Int) < (l.length : Int)) = true := decide_eq_true (by omega)
      have m2 : (i : Int) < (l.length : Int) := by omega
      obtain ⟨x, hx⟩ : ∃ x, l[i]? = some x := ⟨_, List.getElem?_eq_getElem hlt⟩
      obtain ⟨ga, oa, rfl, _, ra⟩ := H3.out i x hx
      obtain ⟨gb, ob, rfl, _, rb⟩ := K3.out i x hx
      obtain ⟨y1, y2, y3, y4, y5, y6, y7⟩ := entAt_of ra
      obtain ⟨z1, z2, z3, z4, z5, z6, z7⟩ := entAt_of rb
      have EQ := fun w => eq39 x x w
      simp only [decide_true] at EQ
      unfold Ent.V at EQ
      clear ra rb hx
      go_upto_region 6 with fail
      go_quiet (fail)
      go_wp2
      go_roundw
      case rel => exact ⟨i + 1, by omega, by go_num, _, rfl⟩
      case measure => simp [intOf]; omega
    · have m1 : decide ((i : Int) < (l.length : Int)) = false := decide_eq_false (by omega)
      have m2 : ¬ (i : Int) < (l.length : Int) := by omega
      go_wp2
      go_ret
      exact ⟨rfl, q, rfl⟩
end Go.Proofs.Ythjoppgomopkfaa
