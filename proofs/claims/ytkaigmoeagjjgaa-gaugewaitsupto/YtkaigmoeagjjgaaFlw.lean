import Derived.Test.YtkaigmoeagjjgaaFlv
namespace Go.Proofs.Ytkaigmoeagjjgaa.Flt
open Ieee

def Fn (x : Nat) : Prop := ∃ z, Is x z
def NN (x : Nat) : Prop := (Ieee.double.read x).isNaN = false
def Pos (x : Nat) : Prop := (Ieee.double.read x).isNaN = false ∧ (Ieee.double.read x).neg = false
theorem Pos.nn {x : Nat} (h : Pos x) : NN x := h.1

theorem write_num (s : Bool) (m : Nat) (p : Int) : (Ieee.double.read (Ieee.double.write (.number s m p))).isNaN = false ∧ (Ieee.double.read (Ieee.double.write (.number s m p))).neg = s := by
  show (Ieee.double.read (Ieee.double.nearest s m p)).isNaN = false ∧ (Ieee.double.read (Ieee.double.nearest s m p)).neg = s
  rw [nearest_eq]
  by_cases h : rung m p < INF
  · rw [read_word s h]; exact ⟨rfl, rfl⟩
  · have : rung m p = INF := Nat.le_antisymm (rung_le m p) (Nat.not_lt.1 h)
    rw [this, read_inf]; exact ⟨rfl, rfl⟩
theorem write_inf (s : Bool) : (Ieee.double.read (Ieee.double.write (.infinity s))).isNaN = false ∧ (Ieee.double.read (Ieee.double.write (.infinity s))).neg = s := by
  show (Ieee.double.read (Ieee.double.word s Ieee.double.infRung)).isNaN = false ∧ (Ieee.double.read (Ieee.double.word s Ieee.double.infRung)).neg = s
  rw [INF_eq, read_inf]; exact ⟨rfl, rfl⟩
theorem Fn.read {x : Nat} (h : Fn x) : ∃ s m p, Ieee.double.read x = .number s m p := by
  obtain ⟨z, hz⟩ := h
  obtain ⟨s, m, p, h, _⟩ := hz.read
  exact ⟨s, m, p, h⟩
theorem Fn.nn {x : Nat} (h : Fn x) : NN x := by
  obtain ⟨s, m, p, h⟩ := h.read
  unfold NN; rw [h]; rfl

theorem add_nn {x y : Nat} (hy : NN y) (hx : Fn x) : ∃ w, Ieee.double.add y x = some w ∧ NN w := by
  obtain ⟨s, m, p, e⟩ := hx.read
  unfold NN at hy ⊢
  unfold Format.add
  rw [e]
  generalize Ieee.double.read y = d at hy ⊢
  cases d with
  | nan => cases hy
  | infinity t => exact ⟨_, rfl, (write_inf _).1⟩
  | number t n q => exact ⟨_, rfl, (write_num _ _ _).1⟩
theorem sub_nn {x y : Nat} (hx : Fn x) (hy : NN y) : ∃ w, Ieee.double.sub x y = some w ∧ NN w := by
  obtain ⟨s, m, p, e⟩ := hx.read
  unfold NN at hy ⊢
  unfold Format.sub
  rw [e]
  generalize Ieee.double.read y = d at hy ⊢
  cases d with
  | nan => cases hy
  | infinity t => exact ⟨_, rfl, (write_inf _).1⟩
  | number t n q => exact ⟨_, rfl, (write_num _ _ _).1⟩
theorem sq_pos {x : Nat} (h : NN x) : ∃ w, Ieee.double.mul x x = some w ∧ Pos w := by
  unfold NN at h
  unfold Format.mul Pos
  generalize Ieee.double.read x = d at h ⊢
  cases d with
  | nan => cases h
  | infinity t => exact ⟨_, rfl, by rw [Bool.xor_self]; exact write_inf _⟩
  | number t n q => exact ⟨_, rfl, by rw [Bool.xor_self]; exact write_num _ _ _⟩
theorem add_pos {x y : Nat} (hx : Pos x) (hy : Pos y) : ∃ w, Ieee.double.add x y = some w ∧ Pos w := by
  unfold Pos at hx hy ⊢
  unfold Format.add
  generalize Ieee.double.read x = d at hx ⊢
  generalize Ieee.double.read y = e at hy ⊢
  cases d with
  | nan => cases hx.1
  | infinity t =>
    obtain rfl : t = false := hx.2
    cases e with
    | nan => cases hy.1
    | infinity u =>
      obtain rfl : u = false := hy.2
      exact ⟨_, rfl, write_inf _⟩
    | number u n q => exact ⟨_, rfl, write_inf _⟩
  | number t m p =>
    obtain rfl : t = false := hx.2
    cases e with
    | nan => cases hy.1
    | infinity u =>
      obtain rfl : u = false := hy.2
      exact ⟨_, rfl, write_inf _⟩
    | number u n q =>
      obtain rfl : u = false := hy.2
      refine ⟨_, rfl, ?_⟩
      have hb : (if signed false m (p - min p q).toNat + signed false n (q - min p q).toNat = 0 then false && false else decide (signed false m (p - min p q).toNat + signed false n (q - min p q).toNat < 0)) = false := by
        split
        · rfl
        · refine decide_eq_false ?_
          rw [sgn_signed, sgn_signed]
          simp only [Bool.false_eq_true, if_false]
          have a := Int.natCast_nonneg (m * 2 ^ (p - min p q).toNat)
          have b := Int.natCast_nonneg (n * 2 ^ (q - min p q).toNat)
          omega
      exact ⟨(write_num _ _ _).1, (write_num _ _ _).2.trans hb⟩
theorem quot_num (g : Nat) (s t : Bool) (m n : Nat) (i j : Int) (hn : n ≠ 0) : Datum.quotient g (.number s m i) (.number t n j) = some (.number (s ^^ t) (2 * ((m <<< (g + n.log2 - m.log2)) / n) + ((m <<< (g + n.log2 - m.log2)) % n != 0).toNat) (i - j - ((g + n.log2 - m.log2 : Nat) : Int) - 1)) := by
  show (if n = 0 then _ else _) = _
  rw [if_neg hn]
theorem root_num (g : Nat) (m : Nat) (i : Int) : ∃ s n j, Datum.root g (.number false m i) = some (.number s n j) := by
  by_cases h : m = 0
  · exact ⟨_, _, _, by show (if m = 0 then _ else _) = _; rw [if_pos h]⟩
  · exact ⟨_, _, _, by show (if m = 0 then _ else _) = _; rw [if_neg h]; rfl⟩
/-- by a count -/
theorem div_nn {x n : Nat} {c : Int} (hx : NN x) (hn : Is n c) (hc : 0 < c) : ∃ w, Ieee.double.div x n = some w ∧ NN w ∧ (Pos x → Pos w) := by
  obtain ⟨s, m, p, e, hp, hz⟩ := hn.read
  have hm : m ≠ 0 := by
    rintro rfl
    rw [Nat.zero_mul] at hz
    cases s <;> simp at hz <;> omega
  have hs : s = false := by
    cases s
    · rfl
    · simp only [if_true] at hz
      have := Int.natCast_nonneg (m * 2 ^ (p - lp).toNat)
      omega
  subst hs
  unfold NN at hx
  unfold Format.div NN Pos
  rw [e]
  generalize Ieee.double.read x = d at hx ⊢
  cases d with
  | nan => cases hx
  | infinity t =>
    refine ⟨_, rfl, (write_inf _).1, fun h => ⟨(write_inf _).1, ?_⟩⟩
    rw [(write_inf _).2]
    have : t = false := h.2
    rw [this]; rfl
  | number t k q =>
    refine ⟨_, by rw [quot_num _ _ _ _ _ _ _ hm]; rfl, (write_num _ _ _).1, fun h => ⟨(write_num _ _ _).1, ?_⟩⟩
    rw [(write_num _ _ _).2]
    have : t = false := h.2
    rw [this]; rfl
theorem sqrt_nn {x : Nat} (h : Pos x) : ∃ w, Ieee.double.sqrt x = some w ∧ NN w := by
  unfold Pos at h
  unfold Format.sqrt NN
  generalize Ieee.double.read x = d at h ⊢
  cases d with
  | nan => cases h.1
  | infinity t =>
    obtain rfl : t = false := h.2
    exact ⟨_, rfl, (write_inf _).1⟩
  | number t m p =>
    obtain rfl : t = false := h.2
    obtain ⟨s, n, j, e⟩ := root_num (Ieee.double.fractionBits + 2) m p
    exact ⟨_, by rw [e]; rfl, (write_num _ _ _).1⟩
theorem order_self {x : Nat} (h : NN x) : Ieee.double.order x x = some .eq := by
  unfold NN at h
  unfold Format.order
  generalize Ieee.double.read x = d at h ⊢
  cases d with
  | nan => cases h
  | infinity t => cases t <;> rfl
  | number t m p => show some (compare _ _) = _; rw [Int.compare_eq_eq.2 rfl]

/-! whole numbers -/
theorem int_fits {a : Int} (h : a.natAbs ≤ 2 * B) : Fits (a * one) := by
  refine fits_of em_lt ?_
  rw [Int.natAbs_mul]
  exact le_em (Nat.le_trans h (by decide))
theorem add_int {u v : Nat} {a b : Int} (hu : Is u (a * one)) (hv : Is v (b * one)) (h : (a + b).natAbs ≤ 2 * B) : ∃ w, Ieee.double.add u v = some w ∧ Is w ((a + b) * one) := by
  obtain ⟨w, h1, h2⟩ := add_Is hu hv (by rw [← Int.add_mul]; exact int_fits h)
  rw [← Int.add_mul, fx_exact h] at h2
  exact ⟨w, h1, h2⟩
theorem sub_int {u v : Nat} {a b : Int} (hu : Is u (a * one)) (hv : Is v (b * one)) (h : (a - b).natAbs ≤ 2 * B) : ∃ w, Ieee.double.sub u v = some w ∧ Is w ((a - b) * one) := by
  obtain ⟨w, h1, h2⟩ := sub_Is hu hv (by rw [← Int.sub_mul]; exact int_fits h)
  rw [← Int.sub_mul, fx_exact h] at h2
  exact ⟨w, h1, h2⟩
theorem order_int {u v : Nat} {a : Int} (hu : Is u a) (hv : Is v a) : Ieee.double.order u v = some .eq := by
  rw [order_Is hu hv, Int.compare_eq_eq.2 rfl]

/-! a moving mean -/
theorem smooth_step {m f w : Nat} {a b p : Int} (hm : Is m a) (hf : Is f b) (hw : Is w p) (h0 : 0 < p) (h1 : p ≤ one) (ha : a.natAbs ≤ 2 * 2 ^ em) (hb : b.natAbs ≤ 2 ^ em) :
    ∃ d q r c, Ieee.double.sub f m = some d ∧ Ieee.double.mul w d = some q ∧ Ieee.double.add m q = some r ∧ Is r c ∧ c.natAbs ≤ 2 * 2 ^ em := by
  have fit0 : ∀ {z : Int}, z.natAbs ≤ 3 * 2 ^ em → Fits z := fun {z} hz => by
    refine fits_of (k := em + 2) (by decide) (Nat.le_trans hz ?_)
    rw [Nat.pow_add]
    generalize 2 ^ em = M
    omega
  have bnd0 : ∀ {z : Int}, z.natAbs ≤ 2 * 2 ^ em → (rd z).natAbs ≤ 2 * 2 ^ em := fun {z} hz => by
    have h2 : 2 * 2 ^ em = 2 ^ (em + 1) := by rw [Nat.pow_succ, Nat.mul_comm]
    rw [h2] at hz ⊢
    exact rd_bound (by decide) hz
  generalize 2 ^ em = M at ha hb fit0 bnd0 ⊢
  obtain ⟨d, e1, hd⟩ := sub_Is hf hm (fit0 (by omega))
  obtain ⟨q, e2, hq⟩ := mul_Is hw hd h0 h1
  have pb := pr_between hw hd h0 h1
  have key : ∀ z : Int, 0 ≤ z → z ≤ 3 * M → rd z ≤ z + M := fun z z0 z3 => by
    have er := rd_err z0 (fit0 (by omega))
    have hB : (0 : Int) < B := by decide
    refine Int.le_of_mul_le_mul_right (a := (B : Int)) ?_ hB
    rw [Int.add_mul]
    have h3 : (3 : Int) ≤ B := by decide
    have : (M : Int) * 3 ≤ M * B := Int.mul_le_mul_of_nonneg_left h3 (Int.natCast_nonneg _)
    generalize (M : Int) * B = MB at this ⊢
    generalize z * (B : Int) = zB at er ⊢
    generalize rd z * (B : Int) = rB at er ⊢
    omega
  have hc : (a + pr p (rd (b - a))).natAbs ≤ 2 * M := by
    by_cases c : a ≤ b
    · have k := key (b - a) (by omega) (by omega)
      have := pb.1 (rd_ge0 (by omega))
      omega
    · have k := key (a - b) (by omega) (by omega)
      have e : rd (a - b) = -rd (b - a) := by rw [← rd_neg]; congr 1; omega
      have := pb.2 (rd_le0 (by omega))
      omega
  obtain ⟨r, e3, hr⟩ := add_Is hm hq (fit0 (by omega))
  exact ⟨d, q, r, _, e1, e2, e3, hr, bnd0 hc⟩
/-- the weight 1 -/
theorem whole_step {m f w : Nat} {a b : Int} (hm : Is m (a * one)) (hf : Is f (b * one)) (hw : Is w one) (ha : a.natAbs ≤ B) (hb : b.natAbs ≤ B) :
    ∃ d q r, Ieee.double.sub f m = some d ∧ Ieee.double.mul w d = some q ∧ Ieee.double.add m q = some r ∧ Is r (b * one) := by
  obtain ⟨d, e1, hd⟩ := sub_int hf hm (by omega)
  have h0 : 0 < one := by unfold one; exact_mod_cast Nat.two_pow_pos eo
  obtain ⟨q, e2, hq⟩ := mul_Is hw hd h0 (Int.le_refl _)
  rw [pr_one hd] at hq
  obtain ⟨r, e3, hr⟩ := add_int hm hq (by omega)
  rw [show a + (b - a) = b by omega] at hr
  exact ⟨d, q, r, e1, e2, e3, hr⟩
/-- samples that are alike -/
theorem flat_step {m f w : Nat} {a p : Int} (hm : Is m (a * one)) (hf : Is f (a * one)) (hw : Is w p) (h0 : 0 < p) (h1 : p ≤ one) (ha : a.natAbs ≤ B) :
    ∃ d q r, Ieee.double.sub f m = some d ∧ Ieee.double.mul w d = some q ∧ Ieee.double.add m q = some r ∧ Is r (a * one) := by
  obtain ⟨d, e1, hd⟩ := sub_int hf hm (by omega)
  rw [Int.sub_self, Int.zero_mul] at hd
  obtain ⟨q, e2, hq⟩ := mul_Is hw hd h0 h1
  rw [pr_zero] at hq
  obtain ⟨r, e3, hr⟩ := add_int (b := 0) hm (by rw [Int.zero_mul]; exact hq) (by omega)
  rw [Int.add_zero] at hr
  exact ⟨d, q, r, e1, e2, e3, hr⟩

theorem Is.norm {x : Nat} {z : Int} (h : Is x z) (hz : B ≤ z.natAbs) : ∃ s m p, Ieee.double.read x = .number s m p ∧ lp ≤ p ∧ B ≤ m ∧ m < 2 * B ∧ z = (if s then -((m * 2 ^ (p - lp).toNat : Nat) : Int) else ((m * 2 ^ (p - lp).toNat : Nat) : Int)) := by
  obtain ⟨s, r, hr, rfl, rfl⟩ := h
  refine ⟨s, rm r, rp r, read_word s hr, rp_ge r, ?_, rm_lt r, by rw [rm_rv]⟩
  have e : (if s = true then -(rv r : Int) else (rv r : Int)).natAbs = rv r := by cases s <;> simp
  rw [e] at hz
  unfold rv at hz
  unfold rm
  split
  · rename_i c; rw [if_pos c] at hz; exact hz
  · exact Nat.le_add_right _ _
theorem log2_norm {m : Nat} (h1 : B ≤ m) (h2 : m < 2 * B) : m.log2 = 52 := by
  have hB : 0 < B := by decide
  have nz : m ≠ 0 := by omega
  have a : 52 ≤ m.log2 := (Nat.le_log2 nz).2 (by rw [← B_pow]; exact h1)
  have b : m.log2 < 53 := (Nat.log2_lt nz).2 (by rw [P53]; exact h2)
  omega
/-- a quotient that is whole -/
theorem div_exact {x n : Nat} {q c : Int} (hx : Is x ((q * c) * one)) (hn : Is n (c * one)) (hc : 0 < c) (hq : q.natAbs ≤ B) : ∃ w, Ieee.double.div x n = some w ∧ Is w (q * one) := by
  have oneN : one.natAbs = 2 ^ eo := rfl
  have oneB : B ≤ 2 ^ eo := by rw [B_pow]; exact Nat.pow_le_pow_right (by decide) (by decide)
  have hcn : 1 ≤ c.natAbs := by omega
  have big : ∀ a : Int, 1 ≤ a.natAbs → B ≤ (a * one).natAbs := fun a h => by
    rw [Int.natAbs_mul, oneN]
    calc B ≤ 2 ^ eo := oneB
      _ = 1 * 2 ^ eo := (Nat.one_mul _).symm
      _ ≤ _ := Nat.mul_le_mul_right _ h
  obtain ⟨t, k, j, e2, hj, hk1, hk2, zn⟩ := hn.norm (big c hcn)
  have hk0 : k ≠ 0 := by have : 0 < B := by decide
                         omega
  have ht : t = false := by
    cases t
    · rfl
    · simp only [if_true] at zn
      have h1 : 0 < c * one := Int.mul_pos hc (by unfold one; exact_mod_cast Nat.two_pow_pos eo)
      have := Int.natCast_nonneg (k * 2 ^ (j - lp).toNat)
      omega
  subst ht
  have kn : c.natAbs * 2 ^ eo = k * 2 ^ (j - lp).toNat := by
    have := congrArg Int.natAbs zn
    rwa [Int.natAbs_mul, oneN, if_neg (by simp), Int.natAbs_natCast] at this
  by_cases q0 : q = 0
  · subst q0
    simp only [Int.zero_mul] at hx ⊢
    obtain ⟨s, m, i, e1, hi, zx⟩ := hx.read
    have hm : m = 0 := by
      have hp : 0 < 2 ^ (i - lp).toNat := Nat.two_pow_pos _
      rcases Nat.eq_zero_or_pos m with h | h
      · exact h
      · have := Nat.mul_pos h hp
        generalize m * 2 ^ (i - lp).toNat = N at this zx
        cases s <;> simp at zx <;> omega
    subst hm
    refine ⟨_, by unfold Format.div; rw [e1, e2, quot_num _ _ _ _ _ _ _ hk0]; rfl, ?_⟩
    simp only [Nat.zero_shiftLeft, Nat.zero_div, Nat.zero_mod]
    refine ⟨s ^^ false, 0, by decide, ?_, by rw [rv_zero]; simp⟩
    show Ieee.double.nearest _ (2 * 0 + 0) _ = _
    rw [nearest_eq, Nat.mul_zero, rung_zero]
  · have hqc : 1 ≤ (q * c).natAbs := by
      rw [Int.natAbs_mul]; exact Nat.mul_pos (by omega) hcn
    obtain ⟨s, m, i, e1, hi, hm1, hm2, zx⟩ := hx.norm (big _ hqc)
    have mn : q.natAbs * (k * 2 ^ (j - lp).toNat) = m * 2 ^ (i - lp).toNat := by
      have := congrArg Int.natAbs zx
      rw [Int.natAbs_mul, oneN, Int.natAbs_mul, Nat.mul_assoc, kn] at this
      rw [this]
      cases s
      · rw [if_neg (by simp), Int.natAbs_natCast]
      · rw [if_pos rfl, Int.natAbs_neg, Int.natAbs_natCast]
    -- the places lie near one another
    have near : (i - lp).toNat ≤ (j - lp).toNat + 53 := by
      refine Nat.not_lt.1 fun hlt => ?_
      have : m * 2 ^ (i - lp).toNat ≥ B * 2 ^ ((j - lp).toNat + 54) := Nat.mul_le_mul hm1 (Nat.pow_le_pow_right (by decide) hlt)
      have h2 : q.natAbs * (k * 2 ^ (j - lp).toNat) ≤ B * (2 * B * 2 ^ (j - lp).toNat) := Nat.mul_le_mul hq (Nat.mul_le_mul_right _ (Nat.le_of_lt hk2))
      rw [mn] at h2
      have h3 := Nat.le_trans this h2
      have h4 := Nat.le_of_mul_le_mul_left h3 (by decide)
      rw [Nat.pow_add, Nat.mul_comm] at h4
      have h5 := Nat.le_of_mul_le_mul_right h4 (Nat.two_pow_pos _)
      revert h5; decide
    obtain ⟨u, hu⟩ : ∃ u : Nat, (j - lp).toNat + 54 = (i - lp).toNat + u := ⟨(j - lp).toNat + 54 - (i - lp).toNat, by omega⟩
    have hD : m * 2 ^ 54 = k * (q.natAbs * 2 ^ u) := by
      have hp : 0 < 2 ^ (i - lp).toNat := Nat.two_pow_pos _
      refine Nat.eq_of_mul_eq_mul_right hp ?_
      calc m * 2 ^ 54 * 2 ^ (i - lp).toNat = m * 2 ^ (i - lp).toNat * 2 ^ 54 := Nat.mul_right_comm _ _ _
        _ = q.natAbs * (k * 2 ^ (j - lp).toNat) * 2 ^ 54 := by rw [mn]
        _ = q.natAbs * k * (2 ^ (j - lp).toNat * 2 ^ 54) := by simp only [Nat.mul_assoc]
        _ = q.natAbs * k * (2 ^ (i - lp).toNat * 2 ^ u) := by rw [← Nat.pow_add, ← Nat.pow_add, hu]
        _ = k * (q.natAbs * 2 ^ u) * 2 ^ (i - lp).toNat := by simp only [Nat.mul_assoc, Nat.mul_comm]
    have hk : 0 < k := by omega
    have hmore : Ieee.double.fractionBits + 2 + k.log2 - m.log2 = 54 := by
      rw [log2_norm hk1 hk2, log2_norm hm1 hm2]; rfl
    refine ⟨_, by unfold Format.div; rw [e1, e2, quot_num _ _ _ _ _ _ _ hk0]; rfl, ?_⟩
    simp only [hmore, Nat.shiftLeft_eq, hD, Nat.mul_mod_right, Nat.mul_div_cancel_left _ hk]
    have hz : ((0 : Nat) != 0).toNat = 0 := rfl
    rw [hz, Nat.add_zero]
    have hpl : i - j - ((54 : Nat) : Int) - 1 = lp + ((eo - u - 1 : Nat) : Int) := by
      have : u ≤ 107 := by
        refine Nat.not_lt.1 fun hlt => ?_
        -- then m would be too great
        have h1 : m * 2 ^ 54 < 2 * B * 2 ^ 54 := Nat.mul_lt_mul_of_pos_right hm2 (by decide)
        have h2 : B * (1 * 2 ^ 108) ≤ k * (q.natAbs * 2 ^ u) := Nat.mul_le_mul hk1 (Nat.mul_le_mul (by omega) (Nat.pow_le_pow_right (by decide) hlt))
        rw [← hD] at h2
        have := Nat.lt_of_le_of_lt h2 h1
        revert this; decide
      have e0 : eo = 1074 := rfl
      have l0 : lp = -1074 := rfl
      omega
    have hu1 : u + 1 ≤ eo := by
      have e0 : eo = 1074 := rfl
      have l0 : lp = -1074 := rfl
      omega
    rw [← fx_exact (x := q) (Nat.le_trans hq (by decide))]
    obtain ⟨v, hv⟩ : ∃ v : Nat, eo = u + 1 + v := ⟨eo - (u + 1), by omega⟩
    have hpl' : i - j - ((54 : Nat) : Int) - 1 = lp + (v : Int) := by
      have hx : eo - u - 1 = v := by omega
      rw [hpl, hx]
    refine write_Is (k := v) ?_ ?_ hpl' (int_fits (a := q) (Nat.le_trans hq (by decide)))
    · rw [Int.natAbs_mul, oneN, hv, Nat.pow_add, Nat.pow_succ]
      simp only [Nat.mul_assoc, Nat.mul_left_comm, Nat.mul_comm]
    · right
      rw [Bool.xor_false]
      have hp1 : 0 < one := by unfold one; exact_mod_cast Nat.two_pow_pos eo
      have hN := Nat.mul_pos (show 0 < m by omega) (Nat.two_pow_pos (i - lp).toNat)
      generalize m * 2 ^ (i - lp).toNat = N at zx hN
      have hcp : 0 < c * one := Int.mul_pos hc hp1
      rw [Int.mul_assoc] at zx
      cases s
      · simp only [Bool.false_eq_true, if_false] at zx
        refine (decide_eq_false ?_).symm
        intro hlt
        by_cases g : q < 0
        · have := Int.mul_neg_of_neg_of_pos g hcp; omega
        · exact absurd (Int.mul_nonneg (Int.not_lt.1 g) (Int.le_of_lt hp1)) (by omega)
      · simp only [if_true] at zx
        refine (decide_eq_true ?_).symm
        by_cases g : q < 0
        · exact Int.mul_neg_of_neg_of_pos g hp1
        · exact absurd (Int.mul_nonneg (Int.not_lt.1 g) (Int.le_of_lt hcp)) (by omega)

end Go.Proofs.Ytkaigmoeagjjgaa.Flt
