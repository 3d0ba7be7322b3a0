import Ieee.Arith
namespace Go.Proofs.Ytkaigmoeagjjgaa.Flt
open Ieee

/-- units: every finite double is a whole number of 2^-1074 -/
def lp : Int := -1074
def B : Nat := 4503599627370496
def INF : Nat := 9218868437227405312
def SW : Nat := 9223372036854775808

theorem B_pow : B = 2 ^ 52 := by decide
theorem lp_eq : Ieee.double.leastPlace = lp := by decide
theorem B_eq : Ieee.double.binade = B := by decide
theorem INF_eq : Ieee.double.infRung = INF := by decide
theorem SW_eq : Ieee.double.signWeight = SW := by decide

/-- n / 2^d, rounded to the nearest, ties to even -/
def E (n d : Nat) : Nat := n / 2 ^ d + (if 2 ^ d < 2 * (n % 2 ^ d) ∨ (2 ^ d = 2 * (n % 2 ^ d) ∧ n / 2 ^ d % 2 = 1) then 1 else 0)

theorem cut_eq (neg : Bool) (n d : Nat) : Toward.even.cut neg n d = E n d := by
  unfold Toward.cut E
  dsimp only
  by_cases h : d ≤ n.log2 + 2
  · rw [Nat.min_eq_left h]
    simp only [Nat.shiftLeft_eq, Nat.one_mul]
    congr 1
    by_cases h1 : 2 ^ d < 2 * (n % 2 ^ d)
    · simp [h1]
    · by_cases h2 : 2 ^ d = 2 * (n % 2 ^ d)
      · by_cases h3 : n / 2 ^ d % 2 = 1
        · simp [h3, ← h2]
        · simp [h1, h3]
      · simp [h1, h2]
  · rw [Nat.min_eq_right (by omega)]
    simp only [Nat.shiftLeft_eq, Nat.one_mul]
    have hn : n < 2 ^ (n.log2 + 1) := Nat.lt_log2_self
    have h1 : 2 ^ (n.log2 + 2) = 2 * 2 ^ (n.log2 + 1) := by rw [show n.log2 + 2 = (n.log2 + 1) + 1 from rfl, Nat.pow_succ, Nat.mul_comm]
    have h2 : 2 ^ (n.log2 + 2) ≤ 2 ^ d := Nat.pow_le_pow_right (by decide) (by omega)
    have e1 : n / 2 ^ (n.log2 + 2) = 0 := Nat.div_eq_of_lt (by omega)
    have e2 : n % 2 ^ (n.log2 + 2) = n := Nat.mod_eq_of_lt (by omega)
    have e3 : n / 2 ^ d = 0 := Nat.div_eq_of_lt (by omega)
    have e4 : n % 2 ^ d = n := Nat.mod_eq_of_lt (by omega)
    rw [e1, e2, e3, e4]
    have g1 : ¬ (2 ^ (n.log2 + 2) < 2 * n) := by omega
    have g3 : ¬ (2 ^ d < 2 * n) := by omega
    simp [g1, g3]

theorem E_zero (n : Nat) : E n 0 = n := by
  unfold E
  have : n % 2 ^ 0 = 0 := by simp [Nat.mod_one]
  rw [this]
  simp

theorem E_scale (m k d : Nat) : E (m * 2 ^ k) (k + d) = E m d := by
  unfold E
  have hk : 0 < 2 ^ k := Nat.two_pow_pos k
  have e1 : m * 2 ^ k / 2 ^ (k + d) = m / 2 ^ d := by
    rw [Nat.pow_add, Nat.mul_comm m, Nat.mul_div_mul_left _ _ hk]
  have e2 : m * 2 ^ k % 2 ^ (k + d) = 2 ^ k * (m % 2 ^ d) := by
    rw [Nat.pow_add, Nat.mul_comm m, Nat.mul_mod_mul_left]
  rw [e1, e2]
  have g1 : (2 ^ (k + d) < 2 * (2 ^ k * (m % 2 ^ d))) ↔ (2 ^ d < 2 * (m % 2 ^ d)) := by
    rw [Nat.pow_add, ← Nat.mul_assoc, Nat.mul_comm 2, Nat.mul_assoc]
    exact Nat.mul_lt_mul_left hk
  have g2 : (2 ^ (k + d) = 2 * (2 ^ k * (m % 2 ^ d))) ↔ (2 ^ d = 2 * (m % 2 ^ d)) := by
    rw [Nat.pow_add, ← Nat.mul_assoc, Nat.mul_comm 2, Nat.mul_assoc]
    exact Nat.mul_right_inj (Nat.pos_iff_ne_zero.1 hk)
  simp only [g1, g2]

theorem E_exact (m t : Nat) : E (m * 2 ^ t) t = m := by
  have := E_scale m t 0
  rw [Nat.add_zero] at this
  rw [this, E_zero]

theorem E_mono {n m : Nat} (d : Nat) (h : n ≤ m) : E n d ≤ E m d := by
  unfold E
  have hp : 0 < 2 ^ d := Nat.two_pow_pos d
  generalize 2 ^ d = P at *
  have hq : n / P ≤ m / P := Nat.div_le_div_right h
  by_cases he : n / P = m / P
  · have hr : n % P ≤ m % P := by
      have a := Nat.div_add_mod n P
      have b := Nat.div_add_mod m P
      rw [he] at a
      omega
    rw [he]
    split <;> split <;> omega
  · have : n / P + 1 ≤ m / P := by omega
    split <;> split <;> omega

theorem E_le (n d : Nat) : E n d ≤ n / 2 ^ d + 1 := by
  unfold E; split <;> omega

theorem le_E (n d : Nat) : n / 2 ^ d ≤ E n d := by
  unfold E; split <;> omega

/-- the rung nearest to m * 2^p -/
def rung (m : Nat) (p : Int) : Nat :=
  if m = 0 then 0 else
    min ((max (p + m.log2 - 52) lp - lp).toNat * B + E (m * 2 ^ (p - max (p + m.log2 - 52) lp).toNat) (max (p + m.log2 - 52) lp - p).toNat) INF

theorem nearest_eq (neg : Bool) (m : Nat) (p : Int) : Ieee.double.nearest neg m p = Ieee.double.word neg (rung m p) := by
  unfold Format.nearest rung
  dsimp only
  rw [lp_eq, B_eq, INF_eq]
  have e : ((Ieee.double.fractionBits : Nat) : Int) = 52 := rfl
  by_cases h : m = 0
  · rw [if_pos h, if_pos h]
  · rw [if_neg h, if_neg h, cut_eq, e, Nat.shiftLeft_eq]

theorem log2_mul_pow (m k : Nat) (h : m ≠ 0) : (m * 2 ^ k).log2 = m.log2 + k := by
  have h1 : 2 ^ m.log2 ≤ m := Nat.log2_self_le h
  have h2 : m < 2 ^ (m.log2 + 1) := Nat.lt_log2_self
  have hne : m * 2 ^ k ≠ 0 := Nat.mul_ne_zero h (Nat.pos_iff_ne_zero.1 (Nat.two_pow_pos k))
  have a : 2 ^ (m.log2 + k) ≤ m * 2 ^ k := by rw [Nat.pow_add]; exact Nat.mul_le_mul_right _ h1
  have b : m * 2 ^ k < 2 ^ (m.log2 + k + 1) := by
    rw [show m.log2 + k + 1 = (m.log2 + 1) + k by omega, Nat.pow_add]
    exact Nat.mul_lt_mul_of_pos_right h2 (Nat.two_pow_pos k)
  have c := (Nat.le_log2 hne).2 a
  have d := (Nat.log2_lt hne).2 b
  omega

theorem rung_scale (m k : Nat) (p : Int) : rung (m * 2 ^ k) (p - k) = rung m p := by
  by_cases h : m = 0
  · subst h; simp [rung]
  have hne : m * 2 ^ k ≠ 0 := Nat.mul_ne_zero h (Nat.pos_iff_ne_zero.1 (Nat.two_pow_pos k))
  unfold rung
  rw [if_neg h, if_neg hne, log2_mul_pow m k h]
  have el : (p - (k : Int)) + ((m.log2 + k : Nat) : Int) - 52 = p + m.log2 - 52 := by omega
  rw [el]
  generalize hL : max (p + (m.log2 : Int) - 52) lp = L
  congr 2
  by_cases h1 : (k : Int) ≤ p - L
  · have e1 : (p - L).toNat = (p - k - L).toNat + k := by omega
    have e2 : (L - p).toNat = 0 := by omega
    have e3 : (L - (p - k)).toNat = 0 := by omega
    rw [e2, e3, E_zero, E_zero, e1, Nat.pow_add, Nat.mul_assoc, Nat.mul_comm (2 ^ k)]
  · by_cases h2 : 0 ≤ p - L
    · obtain ⟨t, ht⟩ : ∃ t : Nat, p - L = t := ⟨(p - L).toNat, by omega⟩
      have e1 : (p - L).toNat = t := by omega
      have e2 : (L - p).toNat = 0 := by omega
      have e3 : (p - k - L).toNat = 0 := by omega
      have e4 : (L - (p - k)).toNat = k - t := by omega
      rw [e1, e2, e3, e4, E_zero, Nat.pow_zero, Nat.mul_one]
      have hk : k = t + (k - t) := by omega
      conv => lhs; arg 1; rw [hk, Nat.pow_add, ← Nat.mul_assoc]
      exact E_exact _ _
    · have e1 : (p - L).toNat = 0 := by omega
      have e3 : (p - k - L).toNat = 0 := by omega
      have e4 : (L - (p - k)).toNat = k + (L - p).toNat := by omega
      rw [e1, e3, e4, Nat.pow_zero, Nat.mul_one, Nat.mul_one]
      exact E_scale _ _ _

/-- rungs rise -/
theorem rung_mono {m n : Nat} (p : Int) (h : m ≤ n) : rung m p ≤ rung n p := by
  by_cases hm : m = 0
  · simp [rung, hm]
  have hn : n ≠ 0 := by omega
  have hl : m.log2 ≤ n.log2 := by
    rw [Nat.le_log2 hn]
    exact Nat.le_trans (Nat.log2_self_le hm) h
  unfold rung
  rw [if_neg hm, if_neg hn]
  refine (fun a => by omega : ∀ {a b c : Nat}, a ≤ b → min a c ≤ min b c) ?_
  generalize hL1 : max (p + (m.log2 : Int) - 52) lp = L1
  generalize hL2 : max (p + (n.log2 : Int) - 52) lp = L2
  have hll : L1 ≤ L2 := by omega
  by_cases e : L1 = L2
  · subst e
    exact Nat.add_le_add_left (E_mono _ (Nat.mul_le_mul_right _ h)) _
  · have hp2 : L2 = p + (n.log2 : Int) - 52 := by omega
    have hlt : L1 + 1 ≤ L2 := by omega
    have hlp : lp ≤ L1 := by omega
    -- the lesser one is at most two binades
    have u1 : E (m * 2 ^ (p - L1).toNat) (L1 - p).toNat ≤ 2 * B := by
      have hm2 : m < 2 ^ (m.log2 + 1) := Nat.lt_log2_self
      by_cases c : 0 ≤ p - L1
      · have e2 : (L1 - p).toNat = 0 := by omega
        rw [e2, E_zero]
        have : m * 2 ^ (p - L1).toNat < 2 ^ (m.log2 + 1) * 2 ^ (p - L1).toNat := Nat.mul_lt_mul_of_pos_right hm2 (Nat.two_pow_pos _)
        rw [← Nat.pow_add] at this
        have le : 2 ^ (m.log2 + 1 + (p - L1).toNat) ≤ 2 ^ 53 := Nat.pow_le_pow_right (by decide) (by omega)
        have : (2:Nat) ^ 53 = 2 * B := by decide
        omega
      · have e2 : (p - L1).toNat = 0 := by omega
        rw [e2, Nat.pow_zero, Nat.mul_one]
        have le := E_le m (L1 - p).toNat
        have : m / 2 ^ (L1 - p).toNat < 2 ^ 53 := by
          rw [Nat.div_lt_iff_lt_mul (Nat.two_pow_pos _), ← Nat.pow_add]
          exact Nat.lt_of_lt_of_le hm2 (Nat.pow_le_pow_right (by decide) (by omega))
        have : (2:Nat) ^ 53 = 2 * B := by decide
        omega
    have u2 : B ≤ E (n * 2 ^ (p - L2).toNat) (L2 - p).toNat := by
      have hn2 : 2 ^ n.log2 ≤ n := Nat.log2_self_le hn
      by_cases c : 0 ≤ p - L2
      · have e2 : (L2 - p).toNat = 0 := by omega
        rw [e2, E_zero, B_pow]
        have : 2 ^ n.log2 * 2 ^ (p - L2).toNat ≤ n * 2 ^ (p - L2).toNat := Nat.mul_le_mul_right _ hn2
        rw [← Nat.pow_add] at this
        have le : (2:Nat) ^ 52 ≤ 2 ^ (n.log2 + (p - L2).toNat) := Nat.pow_le_pow_right (by decide) (by omega)
        omega
      · have e2 : (p - L2).toNat = 0 := by omega
        rw [e2, Nat.pow_zero, Nat.mul_one]
        refine Nat.le_trans ?_ (le_E n _)
        rw [Nat.le_div_iff_mul_le (Nat.two_pow_pos _), B_pow, ← Nat.pow_add]
        exact Nat.le_trans (Nat.pow_le_pow_right (by decide) (by omega)) hn2
    have hx : (L1 - lp).toNat + 1 ≤ (L2 - lp).toNat := by omega
    have hy : ((L1 - lp).toNat + 1) * B ≤ (L2 - lp).toNat * B := Nat.mul_le_mul_right _ hx
    rw [Nat.add_mul, Nat.one_mul] at hy
    omega

/-- what a rung is worth, in units -/
def rv (r : Nat) : Nat := if r < B then r else (B + r % B) * 2 ^ (r / B - 1)

theorem rv_zero : rv 0 = 0 := by decide

theorem rung_zero (p : Int) : rung 0 p = 0 := by simp [rung]

/-- a number of at most 53 digits is met -/
theorem rv_rung {m : Nat} {p : Int} (hm : m < 2 * B) (hp : lp ≤ p) (hi : rung m p < INF) : rv (rung m p) = m * 2 ^ (p - lp).toNat := by
  by_cases h : m = 0
  · subst h; rw [rung_zero, rv_zero, Nat.zero_mul]
  have hl : m.log2 ≤ 52 := by
    have : m.log2 < 53 := (Nat.log2_lt h).2 (by have : (2:Nat)^53 = 2 * B := by decide
                                                omega)
    omega
  unfold rung at hi ⊢
  rw [if_neg h] at hi ⊢
  generalize hL : max (p + (m.log2 : Int) - 52) lp = L at hi ⊢
  have e1 : (L - p).toNat = 0 := by omega
  rw [e1, E_zero] at hi ⊢
  have hlt : (L - lp).toNat * B + m * 2 ^ (p - L).toNat < INF := by omega
  rw [Nat.min_eq_left (Nat.le_of_lt hlt)]
  have h1 : 2 ^ m.log2 ≤ m := Nat.log2_self_le h
  have h2 : m < 2 ^ (m.log2 + 1) := Nat.lt_log2_self
  by_cases c : L = lp
  · have e2 : (L - lp).toNat = 0 := by omega
    rw [e2, Nat.zero_mul, Nat.zero_add, c]
    have lt : m * 2 ^ (p - lp).toNat < 2 * B := by
      have : m * 2 ^ (p - lp).toNat < 2 ^ (m.log2 + 1) * 2 ^ (p - lp).toNat := Nat.mul_lt_mul_of_pos_right h2 (Nat.two_pow_pos _)
      rw [← Nat.pow_add] at this
      have le : 2 ^ (m.log2 + 1 + (p - lp).toNat) ≤ 2 ^ 53 := Nat.pow_le_pow_right (by decide) (by omega)
      have : (2:Nat) ^ 53 = 2 * B := by decide
      omega
    generalize m * 2 ^ (p - lp).toNat = x at lt
    unfold rv
    split
    · rfl
    · have hB : 0 < B := by decide
      have a : x / B = 1 := by
        rw [Nat.div_eq_iff hB]; omega
      have b := Nat.div_add_mod x B
      rw [a] at b ⊢
      simp
      omega
  · have hpL : L = p + (m.log2 : Int) - 52 := by omega
    obtain ⟨t, ht⟩ : ∃ t : Nat, p - L = t := ⟨(p - L).toNat, by omega⟩
    obtain ⟨q, hq⟩ : ∃ q : Nat, L - lp = q := ⟨(L - lp).toNat, by omega⟩
    have e2 : (p - L).toNat = t := by omega
    have e3 : (L - lp).toNat = q := by omega
    have e4 : (p - lp).toNat = t + q := by omega
    rw [e2, e3, e4]
    have ge : B ≤ m * 2 ^ t := by
      have : 2 ^ m.log2 * 2 ^ t ≤ m * 2 ^ t := Nat.mul_le_mul_right _ h1
      rw [← Nat.pow_add] at this
      have le : (2:Nat) ^ 52 ≤ 2 ^ (m.log2 + t) := Nat.pow_le_pow_right (by decide) (by omega)
      rw [B_pow]; omega
    have lt : m * 2 ^ t < 2 * B := by
      have : m * 2 ^ t < 2 ^ (m.log2 + 1) * 2 ^ t := Nat.mul_lt_mul_of_pos_right h2 (Nat.two_pow_pos _)
      rw [← Nat.pow_add] at this
      have le : 2 ^ (m.log2 + 1 + t) ≤ 2 ^ 53 := Nat.pow_le_pow_right (by decide) (by omega)
      have : (2:Nat) ^ 53 = 2 * B := by decide
      omega
    rw [Nat.pow_add, ← Nat.mul_assoc]
    generalize m * 2 ^ t = x at ge lt
    have hB : 0 < B := by decide
    unfold rv
    have a : (q * B + x) / B = q + 1 := by
      rw [Nat.mul_comm, Nat.mul_add_div hB]
      congr 1
      rw [Nat.div_eq_iff hB]; omega
    have b : (q * B + x) % B = x - B := by
      rw [Nat.mul_comm, Nat.mul_add_mod, Nat.mod_eq_sub_mod ge, Nat.mod_eq_of_lt (by omega)]
    have nlt : ¬ (q * B + x < B) := by
      have : 0 ≤ q * B := Nat.zero_le _
      omega
    rw [if_neg nlt, a, b]
    have : B + (x - B) = x := by omega
    rw [this, Nat.add_sub_cancel]

end Go.Proofs.Ytkaigmoeagjjgaa.Flt
