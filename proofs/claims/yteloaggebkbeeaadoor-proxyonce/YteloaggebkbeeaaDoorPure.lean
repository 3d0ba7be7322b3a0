namespace Go.Proofs.YteloaggebkbeeaaDoor
set_option linter.unusedVariables false

/-- A number in groups of seven bits, the lowest first; the first number is how many groups may follow. -/
def enc : Nat → Nat → List UInt8
  | 0, n => [UInt8.ofNat n]
  | f + 1, n => if n < 128 then [UInt8.ofNat n] else UInt8.ofNat (n % 128 + 128) :: enc f (n / 128)

theorem enc_small (f n : Nat) (h : n < 128) : enc f n = [UInt8.ofNat n] := by cases f <;> simp [enc, h]
theorem enc_step (f n : Nat) (h : ¬ n < 128) : enc (f + 1) n = UInt8.ofNat (n % 128 + 128) :: enc f (n / 128) := by simp [enc, h]
theorem enc_len (f n : Nat) : (enc f n).length ≤ f + 1 := by
  induction f generalizing n with
  | zero => simp [enc]
  | succ f ih =>
    unfold enc
    split
    · simp
    · simp; exact ih _

set_option maxRecDepth 100000 in
theorem or128 (x : Nat) : x % 256 ||| 128 = x % 128 + 128 := by
  have h : ∀ y : Fin 256, y.val ||| 128 = y.val % 128 + 128 := by decide +kernel
  have := h ⟨x % 256, by omega⟩
  simp only at this
  rw [this]
  omega

theorem toNat_of128 (x : Nat) : (UInt8.ofNat (x % 128 + 128)).toNat = x % 128 + 128 := by simp; omega
theorem toNat_small (x : Nat) (h : x < 128) : (UInt8.ofNat x).toNat = x := by simp; omega

theorem xor_ones (x : Nat) (h : x < 2 ^ 64) : (2 ^ 64 - 1) ^^^ x = 2 ^ 64 - (x + 1) := by
  apply Nat.eq_of_testBit_eq
  intro i
  rw [Nat.testBit_xor, Nat.testBit_two_pow_sub_one, Nat.testBit_two_pow_sub_succ h]
  by_cases hi : i < 64
  · simp [hi]
  · have : x.testBit i = false := Nat.testBit_lt_two_pow (Nat.lt_of_lt_of_le h (Nat.pow_le_pow_right (by omega) (by omega)))
    simp [hi, this]

/-- The number that Signed writes. -/
def foldN (n : Int) : Nat := if n < 0 then (-(n + 1)).toNat * 2 + 1 else n.toNat * 2

/-- A number read from its place on: the number, how many bytes, the error. -/
def look (most top : Nat) : Nat → List UInt8 → Nat → Nat × Nat × Nat
  | _, [], _ => (0, 0, 10)
  | k, c :: r, acc =>
    if k + 1 = most ∧ top < c.toNat then (0, 0, 11)
    else if 128 ≤ c.toNat then look most top (k + 1) r (acc + c.toNat % 128 * 128 ^ k)
    else if c.toNat = 0 ∧ 0 < k then (0, 0, 12)
    else (acc + c.toNat % 128 * 128 ^ k, k + 1, 0)

theorem look_at (most top k acc : Nat) (rs : List UInt8) (hk : k < rs.length) : look most top k (rs.drop k) acc =
    if k + 1 = most ∧ top < (rs.getD k 0).toNat then (0, 0, 11)
    else if 128 ≤ (rs.getD k 0).toNat then look most top (k + 1) (rs.drop (k + 1)) (acc + (rs.getD k 0).toNat % 128 * 128 ^ k)
    else if (rs.getD k 0).toNat = 0 ∧ 0 < k then (0, 0, 12)
    else (acc + (rs.getD k 0).toNat % 128 * 128 ^ k, k + 1, 0) := by
  have e : rs.drop k = rs.getD k 0 :: rs.drop (k + 1) := by
    rw [List.drop_eq_getElem_cons hk]
    simp [List.getD, hk]
  rw [e, look]

theorem and127 (x : Nat) (h : x < 256) : x &&& (255 - 128) = x % 128 := by
  have := Nat.and_two_pow_sub_one_eq_mod x 7
  simpa using this

set_option maxRecDepth 100000 in
theorem and128 (x : Nat) (h : x < 256) : x &&& 128 = if 128 ≤ x then 128 else 0 := by
  have h' : ∀ y : Fin 256, y.val &&& 128 = if 128 ≤ y.val then 128 else 0 := by decide +kernel
  exact h' ⟨x, h⟩

/-- Bits that lie above those of a number are added. -/
theorem or_add (acc y k : Nat) (h : acc < 128 ^ k) : acc ||| y * 128 ^ k = acc + y * 128 ^ k := by
  have e : (128 : Nat) ^ k = 2 ^ (7 * k) := by rw [Nat.pow_mul]
  rw [e] at h ⊢
  have := Nat.two_pow_add_eq_or_of_lt h y
  rw [Nat.or_comm, Nat.mul_comm y, ← this]
  omega

theorem pow_le (k : Nat) (h : k ≤ 9) : 128 ^ k ≤ 9223372036854775808 := by
  have : (128 : Nat) ^ k ≤ 128 ^ 9 := Nat.pow_le_pow_right (by omega) h
  have e : (128 : Nat) ^ 9 = 9223372036854775808 := by decide
  omega

/-- What is gathered stays within 64 bits. -/
theorem acc_lt (acc x k most top : Nat) (h : acc < 128 ^ k) (hk : k < most) (hm : most ≤ 10) (ht2 : most = 10 → top ≤ 1) (hw : ¬ (k + 1 = most ∧ top < x)) :
    acc + x % 128 * 128 ^ k < 18446744073709551616 ∧ (k + 1 < most → acc + x % 128 * 128 ^ k < 128 ^ (k + 1)) ∧ x % 128 * 128 ^ k < 18446744073709551616 := by
  have h1 : x % 128 * 128 ^ k ≤ 127 * 128 ^ k := Nat.mul_le_mul_right _ (by omega)
  have h2 : (128 : Nat) ^ (k + 1) = 128 * 128 ^ k := by rw [Nat.pow_succ]; omega
  by_cases hk9 : k = 9
  · have hm10 : most = 10 := by omega
    have := ht2 hm10
    have hx : x ≤ 1 := by
      by_cases hx : x ≤ 1
      · exact hx
      · exact absurd ⟨by omega, by omega⟩ hw
    have h3 : x % 128 * 128 ^ k ≤ 1 * 128 ^ k := Nat.mul_le_mul_right _ (by omega)
    subst hk9
    have e : (128 : Nat) ^ 9 = 9223372036854775808 := by decide
    omega
  · have := pow_le (k + 1) (by omega)
    omega

theorem look_bound (most top : Nat) (hm : most ≤ 10) (ht1 : top < 128) (ht2 : most = 10 → top ≤ 1) (l : List UInt8) : ∀ (k acc : Nat), k < most → acc < 128 ^ k →
    (look most top k l acc).1 < 18446744073709551616 ∧ (most ≤ 9 → (look most top k l acc).1 < 9223372036854775808) ∧ (look most top k l acc).2.1 ≤ k + l.length ∧ ((look most top k l acc).2.2 ≠ 0 → (look most top k l acc).1 = 0 ∧ (look most top k l acc).2.1 = 0) ∧ (look most top k l acc).2.2 ≤ 12 ∧ ((look most top k l acc).2.2 = 0 → k < (look most top k l acc).2.1) := by
  induction l with
  | nil => intro k acc _ _; simp [look]
  | cons c r ih =>
    intro k acc hk hacc
    unfold look
    by_cases hA : k + 1 = most ∧ top < c.toNat
    · rw [if_pos hA]; simp
    · rw [if_neg hA]
      have ha := acc_lt acc c.toNat k most top hacc hk hm ht2 hA
      by_cases hB : 128 ≤ c.toNat
      · rw [if_pos hB]
        by_cases hlast : k + 1 < most
        · have := ih (k + 1) _ hlast (ha.2.1 hlast)
          simp only [List.length_cons]
          omega
        · exfalso
          have : ¬ top < c.toNat := fun h => hA ⟨by omega, h⟩
          omega
      · rw [if_neg hB]
        by_cases hC : c.toNat = 0 ∧ 0 < k
        · rw [if_pos hC]; simp
        · rw [if_neg hC]
          refine ⟨ha.1, fun h9 => ?_, by simp only [List.length_cons]; omega, by simp, by simp, by simp⟩
          by_cases hlast : k + 1 < most
          · have := ha.2.1 hlast
            have := pow_le (k + 1) (by omega)
            simp only
            omega
          · have h1 : c.toNat % 128 * 128 ^ k ≤ 127 * 128 ^ k := Nat.mul_le_mul_right _ (by omega)
            have h2 : (128 : Nat) ^ (k + 1) = 128 * 128 ^ k := by rw [Nat.pow_succ]; omega
            have := pow_le (k + 1) (by omega)
            simp only
            omega

/-- The first error stays. -/
def keepE (err e : Int) : Int := if err = 0 then e else err

/-- What a reader has behind an item: the rest, the place, the error. -/
def aft (rs : List UInt8) (place : Nat) (err : Int) (size : Nat) (e : Int) : List UInt8 × Nat × Int :=
  if e = 0 then (rs.drop size, place + size, err) else ([], place, keepE err e)

/-- A number that is not above a bound: the number, how many bytes, the error. -/
def numR (rs : List UInt8) (most above : Int) : Int × Nat × Int :=
  if (look 9 127 0 rs 0).2.2 = 0 then
    if most < ((look 9 127 0 rs 0).1 : Int) then (0, (look 9 127 0 rs 0).2.1, above) else ((look 9 127 0 rs 0).1, (look 9 127 0 rs 0).2.1, 0)
  else (0, (look 9 127 0 rs 0).2.1, (look 9 127 0 rs 0).2.2)

theorem numR_eq (rs : List UInt8) (most above : Int) : numR rs most above = if (look 9 127 0 rs 0).2.2 = 0 then
    if most < ((look 9 127 0 rs 0).1 : Int) then ((0 : Int), (look 9 127 0 rs 0).2.1, above) else (((look 9 127 0 rs 0).1 : Int), (look 9 127 0 rs 0).2.1, (0 : Int))
  else ((0 : Int), (look 9 127 0 rs 0).2.1, ((look 9 127 0 rs 0).2.2 : Int)) := rfl

theorem numR_size (rs : List UInt8) (most above : Int) : (numR rs most above).2.1 ≤ rs.length := by
  have h := (look_bound 9 127 (by omega) (by omega) (by omega) rs 0 0 (by omega) (by simp)).2.2.1
  unfold numR
  split
  · split <;> simp only <;> omega
  · simp only; omega

theorem numR_val (rs : List UInt8) (most above : Int) : 0 ≤ (numR rs most above).1 ∧ (numR rs most above).1 < 9223372036854775808 ∧ ((numR rs most above).2.2 ≠ 0 → (numR rs most above).1 = 0) := by
  have h := (look_bound 9 127 (by omega) (by omega) (by omega) rs 0 0 (by omega) (by simp)).2.1 (by omega)
  unfold numR
  split
  · split <;> simp <;> omega
  · simp

/-- The number that Signed reads. -/
def unfoldN (n : Nat) : Int := if n % 2 = 1 then -((n / 2 : Nat) : Int) - 1 else ((n / 2 : Nat) : Int)

/-- A truth: itself, how many bytes, the error. -/
def truthR : List UInt8 → Bool × Nat × Int
  | [] => (false, 0, 10)
  | c :: _ => if 1 < c.toNat then (false, 0, 12) else (c.toNat == 1, 1, 0)

/-- Bytes behind their number. -/
def runR (rs : List UInt8) (most : Int) : List UInt8 × Nat × Int :=
  if (numR rs most 14).2.2 = 0 then
    if ((rs.length - (numR rs most 14).2.1 : Nat) : Int) < (numR rs most 14).1 then ([], (numR rs most 14).2.1, 10)
    else ((rs.drop (numR rs most 14).2.1).take (numR rs most 14).1.toNat, (numR rs most 14).2.1 + (numR rs most 14).1.toNat, 0)
  else ([], (numR rs most 14).2.1, (numR rs most 14).2.2)

theorem runR_eq (rs : List UInt8) (most : Int) : runR rs most = if (numR rs most 14).2.2 = 0 then
    if ((rs.length - (numR rs most 14).2.1 : Nat) : Int) < (numR rs most 14).1 then (([] : List UInt8), (numR rs most 14).2.1, (10 : Int))
    else ((rs.drop (numR rs most 14).2.1).take (numR rs most 14).1.toNat, (numR rs most 14).2.1 + (numR rs most 14).1.toNat, (0 : Int))
  else (([] : List UInt8), (numR rs most 14).2.1, (numR rs most 14).2.2) := rfl

theorem runR_size (rs : List UInt8) (most : Int) : ((runR rs most).2.2 = 0 → (runR rs most).2.1 ≤ rs.length) ∧ (runR rs most).1.length ≤ rs.length := by
  have h := numR_size rs most 14
  unfold runR
  split
  · split
    · simp
    · simp; omega
  · simp only [List.length_nil]; omega

theorem truthR_size (rs : List UInt8) : (truthR rs).2.2 = 0 → (truthR rs).2.1 ≤ rs.length := by
  cases rs with
  | nil => simp [truthR]
  | cons c r =>
    show ((if 1 < c.toNat then (false, 0, 12) else (c.toNat == 1, 1, 0) : Bool × Nat × Int).2.2 = 0 → (if 1 < c.toNat then (false, 0, 12) else (c.toNat == 1, 1, 0) : Bool × Nat × Int).2.1 ≤ (c :: r).length)
    split <;> simp

set_option maxRecDepth 100000 in
theorem and1 (x : Nat) : x &&& 1 = x % 2 := Nat.and_one_is_mod x

end Go.Proofs.YteloaggebkbeeaaDoor
