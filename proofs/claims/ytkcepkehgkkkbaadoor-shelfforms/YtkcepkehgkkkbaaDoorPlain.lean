import Derived.Test.YtkcepkehgkkkbaaDoorRdr
namespace Go.Proofs.YtkcepkehgkkkbaaDoor
set_option linter.unusedVariables false

theorem lim_step (n k most top : Nat) (h : n < (top + 1) * 128 ^ (most - 1 - k)) (hk : k + 1 < most) : n / 128 < (top + 1) * 128 ^ (most - 1 - (k + 1)) := by
  have e : most - 1 - k = (most - 1 - (k + 1)) + 1 := by omega
  rw [e, Nat.pow_succ, ← Nat.mul_assoc] at h
  omega

theorem lim_last (n k most top : Nat) (h : n < (top + 1) * 128 ^ (most - 1 - k)) (hk : k + 1 = most) : n ≤ top := by
  have e : most - 1 - k = 0 := by omega
  rw [e] at h
  simp at h
  omega

theorem split128 (n p : Nat) : n % 128 * p + n / 128 * (p * 128) = n * p := by
  have h : n % 128 + 128 * (n / 128) = n := Nat.mod_add_div n 128
  have e : (n % 128 + 128 * (n / 128)) * p = n * p := by rw [h]
  rw [← e, Nat.add_mul, Nat.mul_comm p 128, ← Nat.mul_assoc, Nat.mul_comm (n / 128) 128]

theorem byte_lo (n : Nat) (h : n < 128) : (UInt8.ofNat n).toNat = n := toNat_small n h

/-- What is written is read. -/
theorem look_enc (most top : Nat) (ht : top < 128) (rest : List UInt8) : ∀ (f k n acc : Nat), k < most → most - 1 - k ≤ f → n < (top + 1) * 128 ^ (most - 1 - k) → (0 < k → 0 < n) →
    look most top k (enc f n ++ rest) acc = (acc + n * 128 ^ k, k + (enc f n).length, 0) := by
  intro f
  induction f with
  | zero =>
    intro k n acc hk hf hn h0
    have hl := lim_last n k most top hn (by omega)
    have hc := byte_lo n (by omega)
    simp only [enc, List.cons_append, List.nil_append, look, hc]
    rw [if_neg (by omega), if_neg (by omega), if_neg (by omega), Nat.mod_eq_of_lt (by omega)]
    simp
  | succ f ih =>
    intro k n acc hk hf hn h0
    by_cases hs : n < 128
    · have hc := byte_lo n hs
      rw [enc_small _ _ hs]
      simp only [List.cons_append, List.nil_append, look, hc]
      have hw : ¬ (k + 1 = most ∧ top < n) := fun ⟨a, b⟩ => by have := lim_last n k most top hn a; omega
      rw [if_neg hw, if_neg (by omega), if_neg (by omega), Nat.mod_eq_of_lt hs]
      simp
    · have hkm : k + 1 < most := by
        by_cases h : k + 1 < most
        · exact h
        · have := lim_last n k most top hn (by omega); omega
      rw [enc_step f n hs]
      simp only [List.cons_append, look, toNat_of128]
      rw [if_neg (by omega), if_pos (by omega)]
      have e : (n % 128 + 128) % 128 = n % 128 := by omega
      rw [e, ih (k + 1) (n / 128) _ hkm (by omega) (lim_step n k most top hn hkm) (by omega)]
      have hp : (128 : Nat) ^ (k + 1) = 128 ^ k * 128 := Nat.pow_succ ..
      have hs := split128 n (128 ^ k)
      rw [hp]
      simp only [List.length_cons, Prod.mk.injEq, and_true]
      omega

/-- A proper beginning is short. -/
theorem look_cut (most top : Nat) (ht : top < 128) : ∀ (f k n acc m : Nat), k < most → most - 1 - k ≤ f → n < (top + 1) * 128 ^ (most - 1 - k) → m < (enc f n).length →
    look most top k ((enc f n).take m) acc = (0, 0, 10) := by
  intro f
  induction f with
  | zero =>
    intro k n acc m hk hf hn hm
    simp [enc] at hm
    subst hm
    simp [look]
  | succ f ih =>
    intro k n acc m hk hf hn hm
    cases m with
    | zero => simp [look]
    | succ m =>
      by_cases hs : n < 128
      · rw [enc_small _ _ hs] at hm; simp at hm
      · have hkm : k + 1 < most := by
          by_cases h : k + 1 < most
          · exact h
          · have := lim_last n k most top hn (by omega); omega
        rw [enc_step f n hs] at hm ⊢
        simp only [List.take_succ_cons, look, toNat_of128]
        rw [if_neg (by omega), if_pos (by omega)]
        exact ih (k + 1) (n / 128) _ m hkm (by omega) (lim_step n k most top hn hkm) (by simpa using hm)

/-- What is read is written as just these bytes. -/
theorem look_inv (most top : Nat) (ht : top < 128) (l : List UInt8) : ∀ (f k acc : Nat), k < most → most - 1 - k ≤ f → (look most top k l acc).2.2 = 0 →
    ∃ n, (look most top k l acc).1 = acc + n * 128 ^ k ∧ (look most top k l acc).2.1 = k + (enc f n).length ∧ l = enc f n ++ l.drop (enc f n).length ∧ (0 < k → 0 < n) ∧ n < (top + 1) * 128 ^ (most - 1 - k) := by
  induction l with
  | nil => intro f k acc hk hf h; simp [look] at h
  | cons c r ih =>
    intro f k acc hk hf
    unfold look
    have hc := c.toNat_lt
    by_cases hA : k + 1 = most ∧ top < c.toNat
    · rw [if_pos hA]; simp
    · rw [if_neg hA]
      by_cases hB : 128 ≤ c.toNat
      · rw [if_pos hB]
        intro h
        have hkm : k + 1 < most := by
          by_cases h : k + 1 < most
          · exact h
          · exact absurd ⟨by omega, by omega⟩ hA
        cases f with
        | zero => omega
        | succ f =>
          obtain ⟨n, h1, h2, h3, h4, h5⟩ := ih f (k + 1) _ hkm (by omega) h
          have h0 := h4 (by omega)
          have hn : ¬ c.toNat % 128 + 128 * n < 128 := by omega
          have e1 : (c.toNat % 128 + 128 * n) % 128 = c.toNat % 128 := by omega
          have e2 : (c.toNat % 128 + 128 * n) / 128 = n := by omega
          have e3 : UInt8.ofNat (c.toNat % 128 + 128) = c := by
            apply UInt8.toNat_inj.1
            rw [toNat_of128]; omega
          have ee : enc (f + 1) (c.toNat % 128 + 128 * n) = c :: enc f n := by rw [enc_step f _ hn, e1, e2, e3]
          refine ⟨c.toNat % 128 + 128 * n, ?_, ?_, ?_, by omega, ?_⟩
          · rw [h1, Nat.pow_succ, Nat.add_mul, Nat.add_assoc, Nat.mul_comm (128 ^ k) 128, ← Nat.mul_assoc, Nat.mul_comm n 128]
          · rw [h2, ee]; simp; omega
          · rw [ee]; simpa using h3
          · have e : most - 1 - k = (most - 1 - (k + 1)) + 1 := by omega
            rw [e, Nat.pow_succ, ← Nat.mul_assoc]
            omega
      · rw [if_neg hB]
        by_cases hC : c.toNat = 0 ∧ 0 < k
        · rw [if_pos hC]; simp
        · rw [if_neg hC]
          intro _
          have e3 : UInt8.ofNat c.toNat = c := by
            apply UInt8.toNat_inj.1
            rw [toNat_small _ (by omega)]
          have ee : enc f c.toNat = [c] := by rw [enc_small f _ (by omega), e3]
          refine ⟨c.toNat, ?_, ?_, ?_, by omega, ?_⟩
          · rw [Nat.mod_eq_of_lt (by omega)]
          · rw [ee]; rfl
          · rw [ee]; rfl
          · by_cases h : k + 1 = most
            · have e : most - 1 - k = 0 := by omega
              rw [e]
              simp
              by_cases h' : top < c.toNat
              · exact absurd ⟨h, h'⟩ hA
              · omega
            · have e : most - 1 - k = (most - 1 - (k + 1)) + 1 := by omega
              rw [e, Nat.pow_succ, ← Nat.mul_assoc]
              have : 1 ≤ (top + 1) * 128 ^ (most - 1 - (k + 1)) := Nat.mul_pos (by omega) (Nat.pow_pos (by omega))
              omega

theorem lim9 : (127 + 1) * 128 ^ (9 - 1 - 0) = 9223372036854775808 := by decide
theorem lim10 : (1 + 1) * 128 ^ (10 - 1 - 0) = 18446744073709551616 := by decide

theorem numR_enc (n : Nat) (hn : n < 9223372036854775808) (rest : List UInt8) (most above : Int) (hm : (n : Int) ≤ most) : numR (enc 9 n ++ rest) most above = ((n : Int), (enc 9 n).length, 0) := by
  have h := look_enc 9 127 (by omega) rest 9 0 n 0 (by omega) (by omega) (by rw [lim9]; exact hn) (by omega)
  unfold numR
  rw [h]
  simp only [Nat.pow_zero, Nat.mul_one, Nat.zero_add, if_true]
  rw [if_neg (by omega)]

theorem numR_cut (n : Nat) (hn : n < 9223372036854775808) (m : Nat) (hm : m < (enc 9 n).length) (most above : Int) : numR ((enc 9 n).take m) most above = (0, 0, 10) := by
  have h := look_cut 9 127 (by omega) 9 0 n 0 m (by omega) (by omega) (by rw [lim9]; exact hn) hm
  unfold numR
  rw [h]
  rfl

theorem unfold_fold (n : Int) : unfoldN (foldN n) = n := by
  unfold unfoldN foldN
  by_cases h : n < 0
  · rw [if_pos h, if_pos (by omega)]; omega
  · rw [if_neg h, if_neg (by omega)]; omega

theorem fold_unfold (n : Nat) : foldN (unfoldN n) = n := by
  unfold unfoldN foldN
  by_cases h : n % 2 = 1
  · rw [if_pos h, if_pos (by omega)]; omega
  · rw [if_neg h, if_neg (by omega)]; omega

theorem runR_enc (l rest : List UInt8) (hl : l.length < 9223372036854775808) (most : Int) (hm : (l.length : Int) ≤ most) : runR (enc 9 l.length ++ (l ++ rest)) most = (l, (enc 9 l.length).length + l.length, 0) := by
  have h := numR_enc l.length hl (l ++ rest) most 14 hm
  unfold runR
  rw [h]
  simp only [if_true]
  rw [if_neg (by simp; omega)]
  simp

theorem runR_cut (l : List UInt8) (hl : l.length < 9223372036854775808) (m : Nat) (hm : m < (enc 9 l.length ++ l).length) (most : Int) (hmost : (l.length : Int) ≤ most) : (runR ((enc 9 l.length ++ l).take m) most).2.2 = 10 ∧ (runR ((enc 9 l.length ++ l).take m) most).1 = [] := by
  by_cases h : m < (enc 9 l.length).length
  · rw [List.take_append_of_le_length (by omega)]
    have e := numR_cut l.length hl m h most 14
    unfold runR
    rw [e]
    simp
  · have e : (enc 9 l.length ++ l).take m = enc 9 l.length ++ l.take (m - (enc 9 l.length).length) := by
      rw [List.take_append, List.take_of_length_le (by omega)]
    rw [e]
    have h' := numR_enc l.length hl (l.take (m - (enc 9 l.length).length)) most 14 hmost
    unfold runR
    rw [h']
    rw [List.length_append] at hm
    simp only [if_true]
    rw [if_pos (by simp; omega)]
    simp

end Go.Proofs.YtkcepkehgkkkbaaDoor
