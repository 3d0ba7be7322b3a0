import Derived.Test.YtblojlaifnmimaaGreatDoorRg
import Derived.Test.YtblojlaifnmimaaGreatDoorRl
import Derived.Test.YtblojlaifnmimaaGreatDoorBl
namespace Go.Proofs.YtblojlaifnmimaaGreatDoor
open Go.RowKit
set_option linter.unusedVariables false

/-- The kind that is found among the first rows. -/
def kdW (x : List UInt8) (k : Nat) : Nat := match kindS x with
  | none => 0
  | some j => if j < k then j else 0
theorem findW_some {x : List UInt8} : ∀ {l : Ws} {a j : Nat}, findW x a l = some j → ∃ i, j = a + i ∧ i < l.length ∧ l.getD i [] = x := by
  intro l
  induction l with
  | nil => intro a j h; simp [findW] at h
  | cons y r ih =>
    intro a j h
    rw [findW] at h
    split at h
    · rename_i hy
      simp only [Option.some.injEq] at h
      exact ⟨0, by omega, by simp, by simpa using hy⟩
    · obtain ⟨i, h1, h2, h3⟩ := ih h
      exact ⟨i + 1, by omega, by simp; omega, by simpa using h3⟩
theorem kindS_word {x : List UInt8} {k : Nat} (h : kindS x = some k) : snN k = x := by
  unfold kindS at h
  obtain ⟨i, h1, h2, h3⟩ := findW_some h
  have hl : i < 13 := h2
  rw [← h3, ← sN_at (by omega), h1]
  simp [List.getD, Nat.add_comm]
theorem kdW_one (x : List UInt8) : kdW x 1 = 0 := by
  unfold kdW
  cases h : kindS x with
  | none => rfl
  | some j =>
    have := kindS_lt h
    simp only
    rw [if_neg (by omega)]
theorem kdW_succ {x : List UInt8} {k : Nat} (h1 : 1 ≤ k) (h13 : k ≤ 13) : kdW x (k + 1) = if snN k = x then k else kdW x k := by
  by_cases h : snN k = x
  · rw [if_pos h]
    unfold kdW
    rw [← h, kindS_back h1 h13]
    simp
  · rw [if_neg h]
    unfold kdW
    cases hk : kindS x with
    | none => rfl
    | some j =>
      simp only
      have : j ≠ k := by
        rintro rfl
        exact h (kindS_word hk)
      by_cases hj : j < k
      · rw [if_pos hj, if_pos (by omega)]
      · rw [if_neg hj, if_neg (by omega)]
theorem kdW_end (x : List UInt8) : kdW x 14 = (kindS x).getD 0 := by
  unfold kdW
  cases h : kindS x with
  | none => rfl
  | some j =>
    have := kindS_lt h
    simp only [Option.getD_some]
    rw [if_pos (by omega)]
theorem frL_at {k : Nat} (h1 : 1 ≤ k) (h13 : k ≤ 13) {i : Nat} (hi : i < (frL (slN k)).length) : i < (slN k).length ∧ (((slN k).getD i 0).toNat = 79 ∧ i + 1 = (frL (slN k)).length ∧ (frL (slN k)).getD i 0 = 111 ∨ ((slN k).getD i 0).toNat ≠ 79 ∧ (frL (slN k)).getD i 0 = (slN k).getD i 0 ∧ ((slN k).getD i 0 = 65 ∨ (slN k).getD i 0 = 75 ∨ (slN k).getD i 0 = 88 ∨ (slN k).getD i 0 = 89)) := by
  have key : ∀ k, k < 14 → ∀ i, i < (frL (slN k)).length → i < (slN k).length ∧ (((slN k).getD i 0).toNat = 79 ∧ i + 1 = (frL (slN k)).length ∧ (frL (slN k)).getD i 0 = 111 ∨ ((slN k).getD i 0).toNat ≠ 79 ∧ (frL (slN k)).getD i 0 = (slN k).getD i 0 ∧ ((slN k).getD i 0 = 65 ∨ (slN k).getD i 0 = 75 ∨ (slN k).getD i 0 = 88 ∨ (slN k).getD i 0 = 89)) := by decide
  exact key k (by omega) i hi
theorem frL_eqlen (lt : List UInt8) : (frL lt).length = lt.length := by simp [frL]
end Go.Proofs.YtblojlaifnmimaaGreatDoor
