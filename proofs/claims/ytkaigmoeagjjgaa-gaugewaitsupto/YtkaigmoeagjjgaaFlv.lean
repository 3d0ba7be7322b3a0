import Derived.Test.YtkaigmoeagjjgaaFlu
namespace Go.Proofs.Ytkaigmoeagjjgaa.Flt
open Ieee

/-! how rd behaves -/
theorem rd_zero : rd 0 = 0 := by unfold rd; simp [rung_zero, rv_zero]
theorem fits_zero : Fits 0 := by unfold Fits; simp only [Int.natAbs_zero, rung_zero]; decide
theorem rd_neg (z : Int) : rd (-z) = -rd z := by
  unfold rd
  rw [Int.natAbs_neg]
  by_cases a : z < 0
  · rw [if_neg (by omega), if_pos a, Int.neg_neg]
  · by_cases b : z = 0
    · subst b; simp [rung_zero, rv_zero]
    · rw [if_pos (by omega), if_neg a]
theorem rd_nonneg {z : Int} (h : 0 ≤ z) : rd z = rv (rung z.toNat lp) := by
  unfold rd; rw [if_neg (by omega)]
  rw [show z.natAbs = z.toNat by omega]
theorem rd_mono_nn {a b : Int} (h0 : 0 ≤ a) (h : a ≤ b) : rd a ≤ rd b := by
  rw [rd_nonneg h0, rd_nonneg (by omega)]
  exact_mod_cast rv_mono (rung_mono lp (by omega))
theorem rd_ge0 {z : Int} (h : 0 ≤ z) : 0 ≤ rd z := by rw [rd_nonneg h]; exact Int.natCast_nonneg _
theorem rd_le0 {z : Int} (h : z ≤ 0) : rd z ≤ 0 := by
  have := rd_ge0 (z := -z) (by omega); rw [rd_neg] at this; omega
theorem rd_mono {a b : Int} (h : a ≤ b) : rd a ≤ rd b := by
  by_cases c : 0 ≤ a
  · exact rd_mono_nn c h
  · by_cases d : 0 ≤ b
    · exact Int.le_trans (rd_le0 (by omega)) (rd_ge0 d)
    · have := rd_mono_nn (a := -b) (b := -a) (by omega) (by omega)
      rw [rd_neg, rd_neg] at this; omega
theorem fits_le {a b : Int} (h : a.natAbs ≤ b.natAbs) (hb : Fits b) : Fits a := Nat.lt_of_le_of_lt (rung_mono lp h) hb
/-- what is met -/
theorem rd_exact {z : Int} {m k : Nat} (hz : z.natAbs = m * 2 ^ k) (hm : m < 2 * B) (hf : Fits z) : rd z = z := by
  have e : rung z.natAbs lp = rung m (lp + k) := by
    rw [hz]
    have := rung_scale m k (lp + k)
    rw [show lp + (k : Int) - k = lp by omega] at this
    exact this
  have hv : rv (rung z.natAbs lp) = z.natAbs := by
    rw [e, rv_rung hm (by omega) (by rw [← e]; exact hf), hz]
    rw [show (lp + (k : Int) - lp).toNat = k by omega]
  unfold rd
  rw [hv]
  split <;> omega
/-- a power of two is met -/
theorem rung_pow {k : Nat} (h : k < 2000) : rung (2 ^ k) lp = if k < 52 then 2 ^ k else (k - 51) * B := by
  have hz : 2 ^ k ≠ 0 := Nat.pos_iff_ne_zero.1 (Nat.two_pow_pos k)
  unfold rung
  rw [if_neg hz, Nat.log2_two_pow]
  by_cases c : k < 52
  · rw [if_pos c]
    have e : max (lp + (k : Int) - 52) lp = lp := by omega
    rw [e]
    simp only [Int.sub_self, Int.toNat_zero, Nat.zero_mul, Nat.zero_add, Nat.pow_zero, Nat.mul_one, E_zero]
    have : 2 ^ k ≤ 2 ^ 52 := Nat.pow_le_pow_right (by decide) (by omega)
    have h52 : (2:Nat) ^ 52 ≤ INF := by decide
    exact Nat.min_eq_left (Nat.le_trans this h52)
  · rw [if_neg c]
    obtain ⟨d, rfl⟩ : ∃ d, k = 52 + d := ⟨k - 52, by omega⟩
    have e : max (lp + ((52 + d : Nat) : Int) - 52) lp = lp + d := by omega
    rw [e]
    have e2 : (lp - (lp + (d : Int))).toNat = 0 := by omega
    have e3 : (lp + (d : Int) - lp).toNat = d := by omega
    rw [e2, e3, Nat.pow_zero, Nat.mul_one, Nat.pow_add, E_exact, ← B_pow, show 52 + d - 51 = d + 1 by omega, Nat.add_mul, Nat.one_mul]
    refine Nat.min_eq_left ?_
    have : (d + 1) * B ≤ 1949 * B := Nat.mul_le_mul_right _ (by omega)
    have h2 : 1949 * B ≤ INF := by decide
    rw [Nat.add_mul, Nat.one_mul] at this
    exact Nat.le_trans this h2
theorem fits_pow {k : Nat} (h : k < 2000) : Fits ((2 ^ k : Nat) : Int) := by
  unfold Fits
  rw [Int.natAbs_natCast, rung_pow h]
  split
  · rename_i c
    have : 2 ^ k ≤ 2 ^ 52 := Nat.pow_le_pow_right (by decide) (by omega)
    have h52 : (2:Nat) ^ 52 < INF := by decide
    exact Nat.lt_of_le_of_lt this h52
  · have : (k - 51) * B ≤ 1949 * B := Nat.mul_le_mul_right _ (by omega)
    have h2 : 1949 * B < INF := by decide
    exact Nat.lt_of_le_of_lt this h2
theorem rd_pow {k : Nat} (h : k < 2000) : rd ((2 ^ k : Nat) : Int) = ((2 ^ k : Nat) : Int) :=
  rd_exact (m := 1) (k := k) (by rw [Int.natAbs_natCast, Nat.one_mul]) (by decide) (fits_pow h)
/-- bounds by a power of two -/
theorem fits_of {z : Int} {k : Nat} (h : k < 2000) (hz : z.natAbs ≤ 2 ^ k) : Fits z := fits_le (by rw [Int.natAbs_natCast]; exact hz) (fits_pow h)
theorem rd_bound {z : Int} {k : Nat} (h : k < 2000) (hz : z.natAbs ≤ 2 ^ k) : (rd z).natAbs ≤ 2 ^ k := by
  have hp := rd_pow h
  have a := rd_mono (a := z) (b := ((2 ^ k : Nat) : Int)) (by omega)
  have b := rd_mono (a := -z) (b := ((2 ^ k : Nat) : Int)) (by omega)
  rw [rd_neg] at b
  rw [hp] at a b
  omega
/-- what is a word's worth is met -/
theorem Is.met {x : Nat} {z : Int} (h : Is x z) : Fits z ∧ rd z = z := by
  obtain ⟨s, r, hr, rfl, rfl⟩ := h
  have e : (if s = true then -(rv r : Int) else (rv r : Int)).natAbs = rv r := by cases s <;> simp
  have hf : Fits (if s = true then -(rv r : Int) else (rv r : Int)) := by unfold Fits; rw [e, rung_rv hr]; exact hr
  refine ⟨hf, ?_⟩
  unfold rd
  rw [e, rung_rv hr]
  cases s
  · rw [if_neg (by simp)]; simp
  · by_cases c : rv r = 0
    · rw [c]; simp
    · rw [if_pos (by simp; omega)]; simp
/-- a sum is not far above -/
theorem rd_err {z : Int} (h : 0 ≤ z) (hf : Fits z) : rd z * B ≤ z * B + z := by
  rw [rd_nonneg h]
  unfold Fits at hf
  rw [show z.natAbs = z.toNat by omega] at hf
  have := rv_err hf
  obtain ⟨n, rfl⟩ := Int.eq_ofNat_of_zero_le h
  rw [Int.toNat_natCast] at this ⊢
  exact_mod_cast this

/-! integers -/
def eo : Nat := 1074
def em : Nat := 1137
theorem em_eq : em = 63 + eo := rfl
theorem em_lt : em < 2000 := by decide
theorem lp_eo : (0 : Int) = lp + (eo : Int) := by decide
theorem lp_eo2 : lp - (eo : Int) = lp + lp := by decide
theorem le_em {n : Nat} (h : n ≤ 2 ^ 63) : n * 2 ^ eo ≤ 2 ^ em := by rw [em_eq, Nat.pow_add]; exact Nat.mul_le_mul_right _ h
def one : Int := ((2 ^ eo : Nat) : Int)
def fx (x : Int) : Nat := Ieee.double.write (.number (x < 0) x.natAbs 0)
theorem fx_Is (x : Int) (h : x.natAbs ≤ 2 ^ 63) : Is (fx x) (rd (x * one)) := by
  have hn : (x * one).natAbs = x.natAbs * 2 ^ eo := by rw [Int.natAbs_mul]; rfl
  refine write_Is (k := eo) hn ?_ lp_eo ?_
  · by_cases c : x = 0
    · left; rw [c, Int.zero_mul]
    · right
      have hp : 0 < one := by unfold one; exact_mod_cast Nat.two_pow_pos eo
      congr 1
      refine propext ⟨fun h => Int.mul_neg_of_neg_of_pos h hp, fun h => ?_⟩
      by_cases g : x < 0
      · exact g
      · exact absurd (Int.mul_nonneg (Int.not_lt.1 g) (Int.le_of_lt hp)) (by omega)
  · refine fits_of em_lt ?_
    rw [hn]
    exact le_em h
theorem fx_bound (x : Int) (h : x.natAbs ≤ 2 ^ 63) : (rd (x * one)).natAbs ≤ 2 ^ em := by
  refine rd_bound em_lt ?_
  rw [Int.natAbs_mul]
  exact le_em h
theorem fx_exact {x : Int} (h : x.natAbs ≤ 2 * B) : rd (x * one) = x * one := by
  have hn : (x * one).natAbs = x.natAbs * 2 ^ eo := by rw [Int.natAbs_mul]; rfl
  by_cases c : x.natAbs < 2 * B
  · refine rd_exact hn c (fits_of em_lt ?_)
    rw [hn]
    exact le_em (Nat.le_trans h (by decide))
  · have e : x.natAbs = 2 * B := by omega
    have e2 : x.natAbs = 2 ^ 53 := by rw [e, P53]
    refine rd_exact (m := 1) (k := 53 + eo) ?_ (by decide) (fits_of em_lt ?_)
    · rw [hn, e2, Nat.one_mul, Nat.pow_add]
    · rw [hn, e2]; exact le_em (Nat.pow_le_pow_right (by decide) (by decide))
theorem fx_Is' {x : Int} (h : x.natAbs ≤ 2 * B) : Is (fx x) (x * one) := by
  have := fx_Is x (Nat.le_trans h (by decide))
  rwa [fx_exact h] at this

/-! products -/
/-- the product of a part and a number is of the number's sign, and not above it -/
theorem mul_raw {x y : Nat} {a b : Int} (hx : Is x a) (hy : Is y b) (ha : 0 < a) (h1 : a ≤ one) :
    ∃ w s, Ieee.double.mul x y = some w ∧ w = Ieee.double.word s (rung (a.toNat * b.natAbs) (lp + lp)) ∧ rung (a.toNat * b.natAbs) (lp + lp) < INF ∧
      rv (rung (a.toNat * b.natAbs) (lp + lp)) ≤ b.natAbs ∧ (b < 0 → s = true) ∧ (0 < b → s = false) := by
  obtain ⟨s, m, i, e1, hi, za⟩ := hx.read
  obtain ⟨t, n, j, e2, hj, zb⟩ := hy.read
  have hs : s = false := by
    cases s
    · rfl
    · simp only [if_true] at za; omega
  subst hs
  simp only [Bool.false_eq_true, if_false] at za
  have ea : a.toNat = m * 2 ^ (i - lp).toNat := by omega
  have eb : b.natAbs = n * 2 ^ (j - lp).toNat := by
    cases t
    · simp only [Bool.false_eq_true, if_false] at zb; rw [zb, Int.natAbs_natCast]
    · simp only [if_true] at zb; rw [zb, Int.natAbs_neg, Int.natAbs_natCast]
  have es : (b < 0 → t = true) ∧ (0 < b → t = false) := by
    generalize n * 2 ^ (j - lp).toNat = N at zb
    cases t
    · simp only [Bool.false_eq_true, if_false] at zb; exact ⟨fun h => by omega, fun _ => rfl⟩
    · simp only [if_true] at zb; exact ⟨fun _ => rfl, fun h => by omega⟩
  have er : rung (m * n) (i + j) = rung (a.toNat * b.natAbs) (lp + lp) := by
    rw [ea, eb, ← rung_scale (m * n) ((i - lp).toNat + (j - lp).toNat) (i + j)]
    congr 1
    · rw [Nat.pow_add]; simp only [Nat.mul_assoc, Nat.mul_left_comm]
    · omega
  have hb := hy.met
  have hle : rung (a.toNat * b.natAbs) (lp + lp) ≤ rung b.natAbs lp := by
    have e := rung_scale b.natAbs eo lp
    rw [lp_eo2] at e
    rw [← e]
    refine rung_mono _ ?_
    rw [Nat.mul_comm b.natAbs]
    refine Nat.mul_le_mul_right _ ?_
    have : one = ((2 ^ eo : Nat) : Int) := rfl
    omega
  have hbv : rv (rung b.natAbs lp) = b.natAbs := by
    have := hb.2
    unfold rd at this
    split at this <;> omega
  refine ⟨_, (false ^^ t), by unfold Format.mul Datum.product; rw [e1, e2]; rfl, ?_, Nat.lt_of_le_of_lt hle hb.1, by rw [← hbv]; exact rv_mono (by rw [hbv]; exact hle), fun h => by rw [es.1 h]; rfl, fun h => by rw [es.2 h]; rfl⟩
  show Ieee.double.nearest _ _ _ = _
  rw [nearest_eq, er]
/-- the worth of a product of a part and a number -/
def pr (a b : Int) : Int := if b < 0 then -(rv (rung (a.toNat * b.natAbs) (lp + lp)) : Int) else rv (rung (a.toNat * b.natAbs) (lp + lp))
theorem mul_Is {x y : Nat} {a b : Int} (hx : Is x a) (hy : Is y b) (ha : 0 < a) (h1 : a ≤ one) : ∃ w, Ieee.double.mul x y = some w ∧ Is w (pr a b) := by
  obtain ⟨w, s, h1, h2, h3, h4, h5, h6⟩ := mul_raw hx hy ha h1
  refine ⟨w, h1, s, _, h3, h2, ?_⟩
  unfold pr
  by_cases c : b < 0
  · rw [if_pos c, h5 c]; simp
  · by_cases d : b = 0
    · subst d
      simp only [Int.natAbs_zero, Nat.mul_zero, rung_zero, rv_zero]
      cases s <;> simp
    · rw [if_neg c, h6 (by omega)]; simp
theorem pr_between {x y : Nat} {a b : Int} (hx : Is x a) (hy : Is y b) (ha : 0 < a) (h1 : a ≤ one) : (0 ≤ b → 0 ≤ pr a b ∧ pr a b ≤ b) ∧ (b ≤ 0 → pr a b ≤ 0 ∧ b ≤ pr a b) := by
  obtain ⟨w, s, h1, h2, h3, h4, h5, h6⟩ := mul_raw hx hy ha h1
  unfold pr
  constructor <;> intro h
  · rw [if_neg (by omega)]; omega
  · by_cases d : b = 0
    · subst d
      simp only [Int.natAbs_zero, Nat.mul_zero, rung_zero, rv_zero]; simp
    · rw [if_pos (by omega)]; omega
theorem pr_one {y : Nat} {b : Int} (hy : Is y b) : pr one b = b := by
  have hb := hy.met
  have e := rung_scale b.natAbs eo lp
  rw [lp_eo2, Nat.mul_comm] at e
  have h1 : one.toNat = 2 ^ eo := by unfold one; rw [Int.toNat_natCast]
  unfold pr
  rw [h1, e]
  exact hb.2
theorem pr_zero (a : Int) : pr a 0 = 0 := by
  unfold pr; simp only [Int.natAbs_zero, Nat.mul_zero, rung_zero, rv_zero]; simp
theorem pr_mono {a a' b : Int} (h : a ≤ a') (hb : 0 ≤ b) : pr a b ≤ pr a' b := by
  unfold pr
  rw [if_neg (by omega), if_neg (by omega)]
  have : rv (rung (a.toNat * b.natAbs) (lp + lp)) ≤ rv (rung (a'.toNat * b.natAbs) (lp + lp)) := rv_mono (rung_mono _ (Nat.mul_le_mul_right _ (by omega)))
  omega

end Go.Proofs.Ytkaigmoeagjjgaa.Flt
