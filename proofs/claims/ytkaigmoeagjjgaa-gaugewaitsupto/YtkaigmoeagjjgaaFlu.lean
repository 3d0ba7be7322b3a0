import Derived.Test.YtkaigmoeagjjgaaFlt
namespace Go.Proofs.Ytkaigmoeagjjgaa.Flt
open Ieee

theorem P53 : (2:Nat) ^ 53 = 2 * B := by decide

theorem rv_at (d : Nat) {x : Nat} (h1 : B ≤ x) (h2 : x ≤ 2 * B) : rv (d * B + x) = x * 2 ^ d := by
  have hB : 0 < B := by decide
  have nlt : ¬ (d * B + x < B) := by
    have : 0 ≤ d * B := Nat.zero_le _
    omega
  unfold rv
  rw [if_neg nlt]
  by_cases c : x = 2 * B
  · subst c
    have a : (d * B + 2 * B) / B = d + 2 := by rw [← Nat.add_mul, Nat.mul_div_cancel _ hB]
    have b : (d * B + 2 * B) % B = 0 := by rw [← Nat.add_mul, Nat.mul_mod_left]
    rw [a, b, Nat.add_zero, show d + 2 - 1 = d + 1 from rfl, Nat.pow_succ, Nat.mul_comm (2 ^ d), ← Nat.mul_assoc, Nat.mul_comm B]
  · have a : (d * B + x) / B = d + 1 := by
      rw [Nat.mul_comm, Nat.mul_add_div hB]
      congr 1
      rw [Nat.div_eq_iff hB]; omega
    have b : (d * B + x) % B = x - B := by
      rw [Nat.mul_comm, Nat.mul_add_mod, Nat.mod_eq_sub_mod h1, Nat.mod_eq_of_lt (by omega)]
    rw [a, b]
    have : B + (x - B) = x := by omega
    rw [this, Nat.add_sub_cancel]

theorem rv_mono {r s : Nat} (h : r ≤ s) : rv r ≤ rv s := by
  have hB : 0 < B := by decide
  unfold rv
  split
  · split
    · exact h
    · rename_i h1 h2
      have : B ≤ (B + s % B) * 2 ^ (s / B - 1) := by
        have : 1 ≤ 2 ^ (s / B - 1) := Nat.two_pow_pos _
        calc B ≤ B + s % B := Nat.le_add_right _ _
          _ = (B + s % B) * 1 := (Nat.mul_one _).symm
          _ ≤ _ := Nat.mul_le_mul_left _ this
      omega
  · rename_i h1
    rw [if_neg (by omega)]
    have hq : r / B ≤ s / B := Nat.div_le_div_right h
    have h1q : 1 ≤ r / B := by rw [Nat.le_div_iff_mul_le hB]; omega
    by_cases e : r / B = s / B
    · have a := Nat.div_add_mod r B
      have b := Nat.div_add_mod s B
      rw [e] at a
      rw [e]
      exact Nat.mul_le_mul_right _ (by omega)
    · have lt : B + r % B ≤ 2 * B := by have := Nat.mod_lt r hB; omega
      calc (B + r % B) * 2 ^ (r / B - 1) ≤ 2 * B * 2 ^ (r / B - 1) := Nat.mul_le_mul_right _ lt
        _ = B * 2 ^ (r / B - 1 + 1) := by rw [Nat.pow_succ, Nat.mul_comm 2, Nat.mul_assoc, Nat.mul_comm 2]
        _ ≤ B * 2 ^ (s / B - 1) := Nat.mul_le_mul_left _ (Nat.pow_le_pow_right (by decide) (by omega))
        _ ≤ _ := Nat.mul_le_mul_right _ (by omega)

/-- magnitude and place of a rung -/
def rm (r : Nat) : Nat := if r < B then r else B + r % B
def rp (r : Nat) : Int := if r < B then lp else lp + (r / B - 1 : Nat)
theorem rp_ge (r : Nat) : lp ≤ rp r := by unfold rp; split <;> omega
theorem rm_rv (r : Nat) : rm r * 2 ^ (rp r - lp).toNat = rv r := by
  unfold rm rp rv
  split
  · simp
  · rw [show (lp + ((r / B - 1 : Nat) : Int) - lp).toNat = r / B - 1 by omega]
theorem rm_lt (r : Nat) : rm r < 2 * B := by
  have hB : 0 < B := by decide
  have := Nat.mod_lt r hB
  unfold rm; split <;> omega

theorem rung_rm {r : Nat} (h : r < INF) : rung (rm r) (rp r) = r := by
  have hB : 0 < B := by decide
  unfold rm rp rung
  by_cases c : r < B
  · rw [if_pos c, if_pos c]
    by_cases z : r = 0
    · simp [z]
    rw [if_neg z]
    have hl : r.log2 < 52 := (Nat.log2_lt z).2 (by rw [← B_pow]; exact c)
    have e : max (lp + (r.log2 : Int) - 52) lp = lp := by omega
    rw [e]
    simp only [Int.sub_self, Int.toNat_zero, Nat.zero_mul, Nat.zero_add, Nat.pow_zero, Nat.mul_one, E_zero]
    omega
  · rw [if_neg c, if_neg c]
    have hm := Nat.mod_lt r hB
    have nz : B + r % B ≠ 0 := by omega
    rw [if_neg nz]
    have hl : (B + r % B).log2 = 52 := by
      have a : 52 ≤ (B + r % B).log2 := (Nat.le_log2 nz).2 (by rw [← B_pow]; omega)
      have b : (B + r % B).log2 < 53 := (Nat.log2_lt nz).2 (by rw [P53]; omega)
      omega
    rw [hl]
    generalize hq : (lp + ((r / B - 1 : Nat) : Int)) = p
    have e : max (p + ((52 : Nat) : Int) - 52) lp = p := by omega
    rw [e]
    have e2 : (p - lp).toNat = r / B - 1 := by omega
    simp only [Int.sub_self, Int.toNat_zero, Nat.pow_zero, Nat.mul_one, E_zero, e2]
    have h1q : 1 ≤ r / B := by rw [Nat.le_div_iff_mul_le hB]; omega
    have a := Nat.div_add_mod r B
    have : (r / B - 1) * B + B = B * (r / B) := by
      rw [← Nat.succ_mul, Nat.mul_comm, Nat.succ_eq_add_one, Nat.sub_add_cancel h1q]
    have e3 : (r / B - 1) * B + (B + r % B) = r := by
      rw [← Nat.add_assoc, this]; exact a
    rw [e3]
    exact Nat.min_eq_left (Nat.le_of_lt h)

theorem rung_rv {r : Nat} (h : r < INF) : rung (rv r) lp = r := by
  have e := rung_scale (rm r) (rp r - lp).toNat (rp r)
  have g := rp_ge r
  rw [rm_rv, show rp r - (((rp r - lp).toNat : Nat) : Int) = lp by omega, rung_rm h] at e
  exact e

theorem rung_le (m : Nat) (p : Int) : rung m p ≤ INF := by
  unfold rung; split
  · decide
  · exact Nat.min_le_right _ _

/-- how far a rung may lie above -/
theorem rv_err {m : Nat} (h : rung m lp < INF) : rv (rung m lp) * B ≤ m * B + m := by
  by_cases z : m = 0
  · subst z; rw [rung_zero, rv_zero]; simp
  have h1 : 2 ^ m.log2 ≤ m := Nat.log2_self_le z
  have h2 : m < 2 ^ (m.log2 + 1) := Nat.lt_log2_self
  by_cases c : m < 2 * B
  · rw [rv_rung c (Int.le_refl _) h]
    simp
  · have hl : 53 ≤ m.log2 := (Nat.le_log2 z).2 (by rw [P53]; omega)
    unfold rung at h ⊢
    rw [if_neg z] at h ⊢
    obtain ⟨d, hd⟩ : ∃ d : Nat, m.log2 = d + 52 := ⟨m.log2 - 52, by omega⟩
    have e : max (lp + (m.log2 : Int) - 52) lp = lp + d := by omega
    rw [e] at h ⊢
    have e2 : (lp - (lp + (d : Int))).toNat = 0 := by omega
    have e3 : (lp + (d : Int) - lp).toNat = d := by omega
    rw [e2, e3, Nat.pow_zero, Nat.mul_one] at h ⊢
    have hlt : d * B + E m d < INF := by omega
    rw [Nat.min_eq_left (Nat.le_of_lt hlt)]
    have u1 : B ≤ E m d := by
      refine Nat.le_trans ?_ (le_E m d)
      rw [Nat.le_div_iff_mul_le (Nat.two_pow_pos _), B_pow, ← Nat.pow_add]
      rw [show 52 + d = m.log2 by omega]; exact h1
    have u2 : E m d ≤ 2 * B := by
      have le := E_le m d
      have : m / 2 ^ d < 2 ^ 53 := by
        rw [Nat.div_lt_iff_lt_mul (Nat.two_pow_pos _), ← Nat.pow_add]
        rw [show 53 + d = m.log2 + 1 by omega]; exact h2
      have : (2:Nat) ^ 53 = 2 * B := by decide
      omega
    rw [rv_at d u1 u2]
    have le : E m d * 2 ^ d ≤ m + 2 ^ d := by
      have := E_le m d
      calc E m d * 2 ^ d ≤ (m / 2 ^ d + 1) * 2 ^ d := Nat.mul_le_mul_right _ this
        _ = m / 2 ^ d * 2 ^ d + 2 ^ d := by rw [Nat.add_mul, Nat.one_mul]
        _ ≤ m + 2 ^ d := Nat.add_le_add_right (Nat.div_mul_le_self _ _) _
    have hp : 2 ^ d * B ≤ m := by
      rw [B_pow, ← Nat.pow_add, show d + 52 = m.log2 by omega]; exact h1
    calc E m d * 2 ^ d * B ≤ (m + 2 ^ d) * B := Nat.mul_le_mul_right _ le
      _ = m * B + 2 ^ d * B := Nat.add_mul _ _ _
      _ ≤ m * B + m := Nat.add_le_add_left hp _

/-! words -/
theorem read_word (s : Bool) {r : Nat} (h : r < INF) : Ieee.double.read (Ieee.double.word s r) = .number s (rm r) (rp r) := by
  have hI : INF < SW := by decide
  have hS : 0 < SW := by decide
  unfold Format.read Format.word rm rp
  simp only [SW_eq, B_eq, INF_eq, lp_eq]
  have e1 : (if s = true then SW + r else r) % SW = r := by
    cases s
    · simp only [Bool.false_eq_true, if_false]; exact Nat.mod_eq_of_lt (by omega)
    · simp only [if_true, Nat.add_mod_left]; exact Nat.mod_eq_of_lt (by omega)
  have e2 : ((if s = true then SW + r else r) / SW % 2 == 1) = s := by
    cases s
    · simp [Nat.div_eq_of_lt (show r < SW by omega)]
    · have : (SW + r) / SW = 1 := by rw [Nat.div_eq_iff hS]; omega
      simp [this]
  rw [e1, e2]
  split
  · rfl
  · rfl

theorem read_inf (s : Bool) : Ieee.double.read (Ieee.double.word s INF) = .infinity s := by
  cases s <;> decide +kernel

/-- a finite word and its worth in units -/
def Is (x : Nat) (z : Int) : Prop := ∃ s r, r < INF ∧ x = Ieee.double.word s r ∧ z = if s then -(rv r : Int) else rv r

def rd (z : Int) : Int := if z < 0 then -(rv (rung z.natAbs lp) : Int) else rv (rung z.natAbs lp)
def Fits (z : Int) : Prop := rung z.natAbs lp < INF

theorem sgn_signed (s : Bool) (m k : Nat) : signed s m k = if s then -((m * 2 ^ k : Nat) : Int) else ((m * 2 ^ k : Nat) : Int) := by
  unfold signed; rw [Nat.shiftLeft_eq]

theorem write_Is {t : Bool} {m k : Nat} {p : Int} {z : Int} (hz : z.natAbs = m * 2 ^ k) (hs : z = 0 ∨ (t = decide (z < 0))) (hp : p = lp + k) (hf : Fits z) :
    Is (Ieee.double.write (.number t m p)) (rd z) := by
  have e : rung m p = rung z.natAbs lp := by
    rw [hz, ← rung_scale m k p]; congr 1; omega
  refine ⟨t, rung m p, by rw [e]; exact hf, nearest_eq _ _ _, ?_⟩
  rw [e]
  unfold rd
  rcases hs with rfl | rfl
  · rw [show (0:Int).natAbs = 0 from rfl, rung_zero, rv_zero]; cases t <;> simp
  · by_cases c : z < 0
    · simp [c]
    · simp [c]

theorem Is.read {x : Nat} {z : Int} (h : Is x z) : ∃ s m p, Ieee.double.read x = .number s m p ∧ lp ≤ p ∧ z = (if s then -((m * 2 ^ (p - lp).toNat : Nat) : Int) else ((m * 2 ^ (p - lp).toNat : Nat) : Int)) := by
  obtain ⟨s, r, hr, rfl, rfl⟩ := h
  exact ⟨s, rm r, rp r, read_word s hr, rp_ge r, by rw [rm_rv]⟩

theorem signed_base {s : Bool} {m : Nat} {p b : Int} (hb : b ≤ p) (hl : lp ≤ b) : (if s then -((m * 2 ^ (p - lp).toNat : Nat) : Int) else ((m * 2 ^ (p - lp).toNat : Nat) : Int)) = signed s m (p - b).toNat * ((2 ^ (b - lp).toNat : Nat) : Int) := by
  rw [sgn_signed, show (p - lp).toNat = (p - b).toNat + (b - lp).toNat by omega, Nat.pow_add, ← Nat.mul_assoc]
  cases s
  · simp
  · simp [Int.neg_mul]

theorem add_Is {x y : Nat} {a b : Int} (hx : Is x a) (hy : Is y b) (hf : Fits (a + b)) : ∃ w, Ieee.double.add x y = some w ∧ Is w (rd (a + b)) := by
  obtain ⟨s, m, i, e1, h1, rfl⟩ := hx.read
  obtain ⟨t, n, j, e2, h2, rfl⟩ := hy.read
  refine ⟨_, by unfold Format.add Datum.sum; rw [e1, e2]; rfl, ?_⟩
  rw [signed_base (b := min i j) (by omega) (by omega), signed_base (s := t) (b := min i j) (by omega) (by omega), ← Int.add_mul] at hf ⊢
  generalize signed s m (i - min i j).toNat + signed t n (j - min i j).toNat = T at hf ⊢
  have hp : 0 < 2 ^ (min i j - lp).toNat := Nat.two_pow_pos _
  refine write_Is (k := (min i j - lp).toNat) (by rw [Int.natAbs_mul, Int.natAbs_natCast]) ?_ (by omega) hf
  by_cases c : T = 0
  · left; rw [c, Int.zero_mul]
  · right
    rw [if_neg c]
    congr 1
    refine propext ⟨fun h => Int.mul_neg_of_neg_of_pos h (by exact_mod_cast hp), fun h => ?_⟩
    by_cases g : T < 0
    · exact g
    · exact absurd (Int.mul_nonneg (Int.not_lt.1 g) (Int.natCast_nonneg (2 ^ (min i j - lp).toNat))) (by omega)

theorem Is.opp {x : Nat} {z : Int} (h : Is x z) : ∃ y, Is y (-z) ∧ Ieee.double.read y = (Ieee.double.read x).opposite := by
  obtain ⟨s, r, hr, rfl, rfl⟩ := h
  refine ⟨Ieee.double.word (!s) r, ⟨!s, r, hr, rfl, by cases s <;> simp⟩, ?_⟩
  rw [read_word _ hr, read_word _ hr]; rfl

theorem sub_Is {x y : Nat} {a b : Int} (hx : Is x a) (hy : Is y b) (hf : Fits (a - b)) : ∃ w, Ieee.double.sub x y = some w ∧ Is w (rd (a - b)) := by
  obtain ⟨y', hy', e⟩ := hy.opp
  obtain ⟨w, h1, h2⟩ := add_Is hx hy' (by rwa [← Int.sub_eq_add_neg])
  refine ⟨w, ?_, by rwa [Int.sub_eq_add_neg]⟩
  unfold Format.sub
  rw [← e]
  exact h1

theorem order_Is {x y : Nat} {a b : Int} (hx : Is x a) (hy : Is y b) : Ieee.double.order x y = some (compare a b) := by
  obtain ⟨s, m, i, e1, h1, rfl⟩ := hx.read
  obtain ⟨t, n, j, e2, h2, rfl⟩ := hy.read
  unfold Format.order Datum.order
  rw [e1, e2]
  rw [signed_base (b := min i j) (by omega) (by omega), signed_base (s := t) (b := min i j) (by omega) (by omega)]
  simp only [Option.some.injEq]
  generalize signed s m (i - min i j).toNat = S
  generalize signed t n (j - min i j).toNat = T
  have hp : (0 : Int) < ((2 ^ (min i j - lp).toNat : Nat) : Int) := by exact_mod_cast Nat.two_pow_pos _
  generalize ((2 ^ (min i j - lp).toNat : Nat) : Int) = P at hp
  rcases Int.lt_trichotomy S T with h | h | h
  · have : S * P < T * P := Int.mul_lt_mul_of_pos_right h hp
    rw [show compare S T = .lt from Int.compare_eq_lt.2 h, show compare (S * P) (T * P) = .lt from Int.compare_eq_lt.2 this]
  · rw [h, show compare T T = .eq from Int.compare_eq_eq.2 rfl, show compare (T * P) (T * P) = .eq from Int.compare_eq_eq.2 rfl]
  · have : T * P < S * P := Int.mul_lt_mul_of_pos_right h hp
    rw [show compare S T = .gt from Int.compare_eq_gt.2 h, show compare (S * P) (T * P) = .gt from Int.compare_eq_gt.2 this]

end Go.Proofs.Ytkaigmoeagjjgaa.Flt
