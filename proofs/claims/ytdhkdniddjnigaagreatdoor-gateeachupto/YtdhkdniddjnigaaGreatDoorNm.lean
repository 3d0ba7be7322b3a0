import Derived.Lib.ItoaNum
import Derived.Lib.AtoiAll
namespace Go.Proofs.YtdhkdniddjnigaaGreatDoor
set_option linter.unusedVariables false

/-- Digits read from the left; what is above the greatest number is none. -/
def decN : Nat → List UInt8 → Option Nat
  | acc, [] => some acc
  | acc, c :: r => if 48 ≤ c.toNat ∧ c.toNat ≤ 57 then (if 10 * acc + (c.toNat - 48) ≤ 9223372036854775807 then decN (10 * acc + (c.toNat - 48)) r else none) else none
/-- A number as it is written. -/
def numW (l : List UInt8) : Option Nat := if l = [] ∨ (1 < l.length ∧ l.head? = some 48) then none else decN 0 l

theorem decN_append (a b : List UInt8) : ∀ acc, decN acc (a ++ b) = (decN acc a).bind fun x => decN x b := by
  induction a with
  | nil => intro acc; simp [decN]
  | cons c r ih =>
    intro acc
    simp only [List.cons_append, decN]
    split
    · split
      · exact ih _
      · rfl
    · rfl
theorem toNat_dig {d : Nat} (h : d < 10) : (UInt8.ofNat (48 + d)).toNat = 48 + d := by simp; omega
theorem decN_one {acc d : Nat} (hd : d < 10) (h : 10 * acc + d ≤ 9223372036854775807) : decN acc [UInt8.ofNat (48 + d)] = some (10 * acc + d) := by
  simp only [decN]
  rw [toNat_dig hd, if_pos ⟨by omega, by omega⟩, if_pos (by omega)]
  congr 1
  omega
theorem decN_digits : ∀ v : Nat, v ≤ 9223372036854775807 → decN 0 (Lib.decDigits v) = some v := by
  intro v
  induction v using Nat.strongRecOn with
  | _ v ih =>
    intro hv
    rw [Lib.decDigits]
    split
    · rename_i h
      rw [decN_one h (by omega)]
      simp
    · rename_i h
      rw [decN_append, ih (v / 10) (by omega) (by omega), Option.bind_some, decN_one (by omega) (by omega)]
      congr 1
      omega
theorem digits_ne (v : Nat) : Lib.decDigits v ≠ [] := by
  rw [Lib.decDigits]
  split <;> simp
theorem digits_head : ∀ v : Nat, 1 ≤ v → (Lib.decDigits v).head? ≠ some 48 := by
  intro v
  induction v using Nat.strongRecOn with
  | _ v ih =>
    intro hv
    rw [Lib.decDigits]
    split
    · rename_i h
      simp only [List.head?_cons, ne_eq, Option.some.injEq]
      intro e
      have := congrArg UInt8.toNat e
      rw [toNat_dig h] at this
      simp at this
      omega
    · rename_i h
      have := ih (v / 10) (by omega) (by omega)
      cases hd : Lib.decDigits (v / 10) with
      | nil => exact absurd hd (digits_ne _)
      | cons a b => rw [hd] at this; simpa using this
theorem digits_long {v : Nat} (h : 1 < (Lib.decDigits v).length) : 1 ≤ v := by
  apply Classical.byContradiction
  intro hn
  have : v = 0 := by omega
  subst this
  rw [Lib.decDigits] at h
  simp at h
theorem digits_len : ∀ (k v : Nat), v < 10 ^ (k + 1) → (Lib.decDigits v).length ≤ k + 1
  | 0, v, h => by rw [Lib.decDigits, dif_pos (by simpa using h)]; simp
  | k + 1, v, h => by
    rw [Lib.decDigits]
    split
    · simp
    · rw [List.length_append]
      have := digits_len k (v / 10) (by rw [Nat.pow_succ] at h; omega)
      simp only [List.length_cons, List.length_nil]
      omega
theorem digits_short {v : Nat} (h : v ≤ 9223372036854775807) : (Lib.decDigits v).length ≤ 19 := digits_len 18 v (by omega)
theorem numW_digits {v : Nat} (h : v ≤ 9223372036854775807) : numW (Lib.decDigits v) = some v := by
  unfold numW
  rw [if_neg]
  · exact decN_digits v h
  · rintro (e | ⟨h1, h2⟩)
    · exact digits_ne _ e
    · exact digits_head v (digits_long h1) h2
theorem decN_le : ∀ {l : List UInt8} {acc v : Nat}, acc ≤ 9223372036854775807 → decN acc l = some v → v ≤ 9223372036854775807
  | [], acc, v, ha, h => by simp only [decN, Option.some.injEq] at h; omega
  | c :: r, acc, v, ha, h => by
    simp only [decN] at h
    split at h
    · split at h
      · exact decN_le (by assumption) h
      · simp at h
    · simp at h
theorem numW_le {l : List UInt8} {v : Nat} (h : numW l = some v) : v ≤ 9223372036854775807 := by
  unfold numW at h
  split at h
  · simp at h
  · exact decN_le (by omega) h
theorem byte_of (c : UInt8) (h : 48 ≤ c.toNat) : UInt8.ofNat (48 + (c.toNat - 48)) = c := by
  rw [show 48 + (c.toNat - 48) = c.toNat by omega]
  simp
theorem snoc_cases (l : List UInt8) : l = [] ∨ ∃ m c, l = m ++ [c] := by
  rcases List.eq_nil_or_concat l with h | ⟨m, c, h⟩
  · exact Or.inl h
  · exact Or.inr ⟨m, c, by rw [h, List.concat_eq_append]⟩
theorem digits_of : ∀ (n : Nat) (l : List UInt8) (v : Nat), l.length = n → numW l = some v → l = Lib.decDigits v := by
  intro n
  induction n with
  | zero =>
    intro l v hl h
    have : l = [] := List.eq_nil_of_length_eq_zero hl
    subst this
    simp [numW] at h
  | succ n ih =>
    intro l v hl h
    rcases snoc_cases l with rfl | ⟨m, c, rfl⟩
    · simp at hl
    unfold numW at h
    split at h
    · simp at h
    rename_i hno
    rw [decN_append] at h
    cases hm : decN 0 m with
    | none => rw [hm] at h; simp at h
    | some u =>
      rw [hm, Option.bind_some] at h
      simp only [decN] at h
      split at h
      · rename_i hc
        split at h
        · rename_i hle
          simp only [Option.some.injEq] at h
          subst h
          by_cases hm0 : m = []
          · subst hm0
            simp only [decN, Option.some.injEq] at hm
            subst hm
            rw [Lib.decDigits, dif_pos (by omega)]
            simp only [List.nil_append, Nat.mul_zero, Nat.zero_add]
            rw [byte_of c hc.1]
          · have hml : 1 ≤ m.length := List.length_pos_iff.2 hm0
            have hh : m.head? = (m ++ [c]).head? := by
              cases m with
              | nil => exact absurd rfl hm0
              | cons a b => rfl
            have hnh : m.head? ≠ some 48 := by
              intro e
              exact hno (Or.inr ⟨by simp; omega, by rw [← hh]; exact e⟩)
            have hnm : numW m = some u := by
              unfold numW
              rw [if_neg (by rintro (e | ⟨_, e⟩); exact hm0 e; exact hnh e)]
              exact hm
            have hmd := ih m u (by simp at hl; omega) hnm
            have hu : 1 ≤ u := by
              apply Classical.byContradiction
              intro hn
              have : u = 0 := by omega
              subst this
              rw [Lib.decDigits, dif_pos (by omega)] at hmd
              rw [hmd] at hnh
              exact hnh rfl
            have h10 : ¬ (10 * u + (c.toNat - 48)) < 10 := by omega
            rw [Lib.decDigits, dif_neg h10, show (10 * u + (c.toNat - 48)) / 10 = u by omega, ← hmd, show (10 * u + (c.toNat - 48)) % 10 = c.toNat - 48 by omega, byte_of c hc.1]
        · simp at h
      · simp at h
theorem numW_spelt {l : List UInt8} {v : Nat} (h : numW l = some v) : l = Lib.decDigits v := digits_of _ l v rfl h
theorem parse_of : ∀ {l : List UInt8} {acc v : Nat}, decN acc l = some v → Lib.parseUint10 acc l = .ok v
  | [], acc, v, h => by simp only [decN, Option.some.injEq] at h; rw [Lib.parseUint10, h]
  | c :: r, acc, v, h => by
    simp only [decN] at h
    split at h
    · rename_i hc
      split at h
      · rename_i hle
        simp only [Lib.parseUint10]
        rw [if_pos hc, if_neg (by omega), if_neg (by omega), show acc * 10 = 10 * acc by omega]
        exact parse_of h
      · simp at h
    · simp at h
theorem atoi_of {l : List UInt8} {v : Nat} (h : numW l = some v) : Lib.atoiAll l = .ok (v : Int) := by
  have hle := numW_le h
  unfold numW at h
  split at h
  · simp at h
  rename_i hno
  cases l with
  | nil => exact absurd (Or.inl rfl) hno
  | cons c r =>
    have hp := parse_of h
    simp only [decN] at h
    split at h
    · rename_i hc
      unfold Lib.atoiAll
      simp only
      rw [if_neg (by omega), Lib.parseMag, if_neg (by simp), hp]
      simp only
      rw [if_neg (by omega), if_neg (by omega), if_neg (by omega)]
    · simp at h
/-- What the program's Number tells is the document's. -/
theorem numW_none {l : List UInt8} (h : numW l = none) {v : Int} (hv : v ≤ 9223372036854775807) (h0 : 0 ≤ v) : Lib.itoa v ≠ l := by
  intro e
  unfold Lib.itoa at e
  rw [if_neg (by omega)] at e
  rw [← e, numW_digits (by omega)] at h
  simp at h
end Go.Proofs.YtdhkdniddjnigaaGreatDoor
