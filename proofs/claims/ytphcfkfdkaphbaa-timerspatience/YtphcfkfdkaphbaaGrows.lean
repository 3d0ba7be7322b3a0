import Derived.Test.YtphcfkfdkaphbaaBackoff
namespace Go.Proofs.Ytphcfkfdkaphbaa
open Go.RowKit
set_option linter.unusedVariables false

/-- The patience behind k doublings. -/
def grownP (b m : Int) (k : Nat) : Int := min (b * 2 ^ k) m
theorem grownP_zero {b m : Int} (h : b ≤ m) : grownP b m 0 = b := by unfold grownP; simp; omega
theorem grownP_succ {b m : Int} (h1 : 1 ≤ b) (h2 : b ≤ m) (k : Nat) : min (2 * grownP b m k) m = grownP b m (k + 1) := by
  unfold grownP
  have e : b * 2 ^ (k + 1) = 2 * (b * 2 ^ k) := by rw [Int.pow_succ]; rw [← Int.mul_assoc]; omega
  rw [e]
  have hx : 0 < b * 2 ^ k := Int.mul_pos (by omega) (Int.pow_pos (by decide))
  generalize b * 2 ^ k = x at *
  omega
theorem pow_le14 {k : Nat} (h : k < 14) : (2 : Int) ^ k ≤ 8192 := by
  have : k = 0 ∨ k = 1 ∨ k = 2 ∨ k = 3 ∨ k = 4 ∨ k = 5 ∨ k = 6 ∨ k = 7 ∨ k = 8 ∨ k = 9 ∨ k = 10 ∨ k = 11 ∨ k = 12 ∨ k = 13 := by omega
  rcases this with rfl | rfl | rfl | rfl | rfl | rfl | rfl | rfl | rfl | rfl | rfl | rfl | rfl | rfl <;> decide
theorem grownP_bounds {b m : Int} (h1 : 1 ≤ b) (h2 : b ≤ m) (k : Nat) : 1 ≤ grownP b m k ∧ grownP b m k ≤ m := by
  induction k with
  | zero => rw [grownP_zero h2]; omega
  | succ k ih => rw [← grownP_succ h1 h2]; omega

theorem grows_bad {w : World} {b m : Int} (h : b < 1 ∨ m < b ∨ 1024 < m) : Calls Try.prog 8 #[.int .i64 b, .int .i64 m] w fun e w' => e = .returned (.bool true) ∧ Below w.heap.size w w' := by
  have herr : errB b m = 30 ∨ errB b m = 32 := by unfold errB; split <;> simp
  have HE := hid (NewBackoff_bad (w := w) h)
  generalize errB b m = er at *
  rcases Int.lt_or_le b 1 with h1 | h1
  · clear h
    rcases herr with rfl | rfl
    all_goals go_enter Try.func8, Try.ntmps8
    all_goals go_wp2_with fail
    all_goals refine HE.out.mono ?_
    all_goals rintro e w1 ⟨rfl, rfl⟩
    all_goals go_wp2
    all_goals go_ret
    all_goals exact ⟨rfl, Below.refl _ _⟩
  · rcases Int.lt_or_le m b with h2 | h2
    · clear h
      rcases herr with rfl | rfl
      all_goals go_enter Try.func8, Try.ntmps8
      all_goals go_wp2_with fail
      all_goals refine HE.out.mono ?_
      all_goals rintro e w1 ⟨rfl, rfl⟩
      all_goals go_wp2
      all_goals go_ret
      all_goals exact ⟨rfl, Below.refl _ _⟩
    · have h3 : 1024 < m := by omega
      clear h
      rcases herr with rfl | rfl
      all_goals go_enter Try.func8, Try.ntmps8
      all_goals go_wp2_with fail
      all_goals refine HE.out.mono ?_
      all_goals rintro e w1 ⟨rfl, rfl⟩
      all_goals go_wp2
      all_goals go_ret
      all_goals exact ⟨rfl, Below.refl _ _⟩

theorem grows_ok {w : World} {b m : Int} (h1 : 1 ≤ b) (h2 : b ≤ m) (h3 : m ≤ 1024) : Calls Try.prog 8 #[.int .i64 b, .int .i64 m] w fun e w' => e = .returned (.bool true) ∧ Below w.heap.size w w' := by
  have n1 : decide (b < 1) = false := decide_eq_false (by omega)
  have n2 : decide (m < b) = false := decide_eq_false (by omega)
  have n3 : decide (1024 < m) = false := decide_eq_false (by omega)
  go_enter Try.func8, Try.ntmps8
  go_wp2_with fail
  refine (NewBackoff_ok h1 h2 h3).mono ?_
  rintro e w1 ⟨P, rfl, hb1, hP, hB1⟩
  have H1 := hid (show Fr [P] w w1 ∧ BoB w1 P b m b from ⟨Fr.below hb1, hB1⟩)
  clear hb1 hB1
  go_wp2
  go_loopw [38] (fun jv wr => ∃ j : Nat, j ≤ 2 ∧ jv = .int .i64 (j : Int) ∧ Hid (Fr [P] w wr ∧ BoB wr P b m b)) (fun jv _ => 2 - (intOf jv).toNat)
  case atStart => exact ⟨0, by omega, rfl, H1⟩
  case round =>
    obtain ⟨j, hj, rfl, HR⟩ := hrel
    clear H1
    by_cases hlt : j < 2
    · have hj2 : decide ((j : Int) < 2) = true := decide_eq_true (by omega)
      go_wp2
      go_loopw [40] (fun kv wr => ∃ k : Nat, k ≤ 14 ∧ kv = .int .i64 (k : Int) ∧ Hid (Fr [P] w wr ∧ BoB wr P b m (grownP b m k))) (fun kv _ => 14 - (intOf kv).toNat)
      case atStart => exact ⟨0, by omega, rfl, by rw [grownP_zero h2]; exact HR⟩
      case round =>
        obtain ⟨k, hk, rfl, HK⟩ := hrel
        clear HR
        by_cases hlt2 : k < 14
        · obtain ⟨x, hx⟩ : ∃ x, x = b * 2 ^ k := ⟨_, rfl⟩
          have hw : wrap64 (b * 2 ^ k) = x := by
            have h8 := pow_le14 hlt2
            have h9 : (0 : Int) < 2 ^ k := Int.pow_pos (by decide)
            have h10 : b * 2 ^ k ≤ 1024 * 8192 := Int.mul_le_mul (by omega) h8 (by omega) (by omega)
            have h11 : 0 < b * 2 ^ k := Int.mul_pos (by omega) h9
            rw [hx]
            unfold wrap64
            omega
          have hx1 : 1 ≤ x := by rw [hx]; exact Int.mul_pos (by omega) (Int.pow_pos (by decide))
          by_cases hxm : x ≤ m
          · have hgx : grownP b m k = x := by unfold grownP; rw [← hx]; omega
            clear hx
            have H5 := hid (show Fr [P] w wr ∧ BoB wr P b m x from ⟨HK.out.1, by have := HK.out.2; rw [hgx] at this; exact this⟩)
            have HG := hid hgx
            clear HK hgx
            go_wp2_with fail
            refine (Now_any H5.out.2).mono ?_
            rintro e w2 ⟨rfl, rfl⟩
            go_wp2_with fail
            refine (Next_any H5.out.2 (by omega) (by omega) h3).mono ?_
            rintro e w3 ⟨rfl, hB3, hf3⟩
            have H3 := hid (show Fr [P] w w3 ∧ BoB w3 P b m (grownP b m (k + 1)) from ⟨H5.out.1.trans' hf3, by rw [← grownP_succ h1 h2, HG.out]; exact hB3⟩)
            clear hB3 hf3 H5
            go_wp2
            go_roundw
            case rel => exact ⟨k + 1, by omega, by go_num, H3⟩
            case measure => simp [intOf]; omega
          · have hgx : grownP b m k = m := by unfold grownP; rw [← hx]; omega
            clear hx
            have H5 := hid (show Fr [P] w wr ∧ BoB wr P b m m from ⟨HK.out.1, by have := HK.out.2; rw [hgx] at this; exact this⟩)
            have HG := hid hgx
            clear HK hgx
            go_wp2_with fail
            refine (Now_any H5.out.2).mono ?_
            rintro e w2 ⟨rfl, rfl⟩
            go_wp2_with fail
            refine (Next_any H5.out.2 (by omega) (by omega) h3).mono ?_
            rintro e w3 ⟨rfl, hB3, hf3⟩
            have H3 := hid (show Fr [P] w w3 ∧ BoB w3 P b m (grownP b m (k + 1)) from ⟨H5.out.1.trans' hf3, by rw [← grownP_succ h1 h2, HG.out]; exact hB3⟩)
            clear hB3 hf3 H5
            go_wp2
            go_roundw
            case rel => exact ⟨k + 1, by omega, by go_num, H3⟩
            case measure => simp [intOf]; omega
        · go_wp2_with fail
          refine (Reset_any HK.out.2).mono ?_
          rintro e w2 ⟨rfl, hB2, hf2⟩
          have H2 := hid (show Fr [P] w w2 ∧ BoB w2 P b m b from ⟨HK.out.1.trans' hf2, hB2⟩)
          clear hB2 hf2 HK
          go_wp2
          go_roundw
          case rel => exact ⟨j + 1, by omega, by go_num, H2⟩
          case measure => simp [intOf]; omega
    · go_wp2
      go_ret
      exact ⟨rfl, Fr.toBelow ⟨HR.out.1.os, HR.out.1.tape, HR.out.1.output, HR.out.1.size, fun k hk _ => HR.out.1.block k hk (by simp; omega)⟩⟩

theorem grows_walk {w : World} (b m : Int) : Calls Try.prog 8 #[.int .i64 b, .int .i64 m] w fun e w' => e = .returned (.bool true) ∧ Below w.heap.size w w' := by
  by_cases h : b < 1 ∨ m < b ∨ 1024 < m
  · exact grows_bad h
  · exact grows_ok (by omega) (by omega) (by omega)
end Go.Proofs.Ytphcfkfdkaphbaa
