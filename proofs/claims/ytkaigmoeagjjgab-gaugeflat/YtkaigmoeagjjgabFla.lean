import Derived.Test.YtkaigmoeagjjgabWho
import Derived.Test.YtkaigmoeagjjgabApp
namespace Go.Proofs.Ytkaigmoeagjjgab
open Go.RowKit
attribute [local go_sem] run_store_float
set_option linter.unusedVariables false

theorem B_val : Flt.B = 4503599627370496 := rfl
theorem rep_snoc (k : Nat) (x : Int) : List.replicate (k + 1) x = List.replicate k x ++ [x] := List.replicate_succ'
theorem flat_sum {x : Int} (hx : x.natAbs ≤ 1099511627776) : ∀ k, k ≤ 4096 → Flt.Is (sumF (List.replicate k x)) ((k : Int) * x * Flt.one)
  | 0, _ => by
    show Flt.Is 0 _
    rw [show (((0 : Nat) : Int) * x * Flt.one) = 0 by simp]
    exact is_zero
  | k + 1, hk => by
    have ih := flat_sum hx k (by omega)
    have hkx : ((k : Int) * x + x).natAbs ≤ 2 * Flt.B := by
      rw [show (k : Int) * x + x = ((k + 1 : Nat) : Int) * x by rw [Int.natCast_add, Int.add_mul]; simp, Int.natAbs_mul, Int.natAbs_natCast]
      have : (k + 1) * x.natAbs ≤ 4096 * 1099511627776 := Nat.mul_le_mul hk hx
      rw [B_val]; omega
    obtain ⟨w, h1, h2⟩ := Flt.add_int ih (Flt.fx_Is' (x := x) (by rw [B_val]; omega)) hkx
    rw [rep_snoc, sumF_snoc]
    have : fadd (sumF (List.replicate k x)) (Flt.fx x) = w := by unfold fadd; rw [h1]; rfl
    rw [this, show (((k + 1 : Nat) : Int) * x) = (k : Int) * x + x by rw [Int.natCast_add, Int.add_mul]; simp]
    exact h2
theorem flat_mean {x : Int} {n : Nat} (hx : x.natAbs ≤ 1099511627776) (h0 : 0 < n) (hn : n ≤ 4096) : Flt.Is (meanF (List.replicate n x)) (x * Flt.one) := by
  have hs := flat_sum hx n hn
  rw [Int.mul_comm (n : Int)] at hs
  obtain ⟨w, h1, h2⟩ := Flt.div_exact hs (nat_is hn) (by omega) (by rw [B_val]; omega)
  unfold meanF
  rw [List.length_replicate]
  have : fdiv (sumF (List.replicate n x)) (Flt.fx n) = w := by unfold fdiv; rw [h1]; rfl
  rw [this]; exact h2
theorem read_zero {d : Nat} (h : Flt.Is d 0) : ∃ s p, Ieee.double.read d = .number s 0 p := by
  obtain ⟨s, m, p, e, hp, hz⟩ := h.read
  have hm : m = 0 := by
    have h2 : 0 < 2 ^ (p - Flt.lp).toNat := Nat.two_pow_pos _
    rcases Nat.eq_zero_or_pos m with h | h
    · exact h
    · have := Nat.mul_pos h h2
      generalize m * 2 ^ (p - Flt.lp).toNat = N at this hz
      cases s <;> simp at hz <;> omega
  subst hm
  exact ⟨s, p, e⟩
theorem sq_zero {d : Nat} (h : Flt.Is d 0) : fmul d d = 0 := by
  obtain ⟨s, p, e⟩ := read_zero h
  unfold fmul Ieee.Format.mul
  rw [e]
  show (some (Ieee.double.nearest (s ^^ s) (0 * 0) (p + p))).getD 0 = 0
  rw [Flt.nearest_eq, Nat.mul_zero, Flt.rung_zero, Bool.xor_self]
  rfl
theorem root_zero {d : Nat} (h : Flt.Is d 0) : Flt.Is (fsqr d) 0 := by
  obtain ⟨s, p, e⟩ := read_zero h
  have : fsqr d = Ieee.double.word s 0 := by
    unfold fsqr Ieee.Format.sqrt
    rw [e]
    show (some (Ieee.double.nearest s 0 p)).getD 0 = _
    rw [Flt.nearest_eq, Flt.rung_zero]
    rfl
  rw [this]
  exact ⟨s, 0, by decide, rfl, by rw [Flt.rv_zero]; cases s <;> simp⟩
theorem add_zero0 : fadd 0 0 = 0 := by decide +kernel
theorem flat_devS {x : Int} {m : Nat} (hx : x.natAbs ≤ 1099511627776) (hm : Flt.Is m (x * Flt.one)) : ∀ k, devS (List.replicate k x) m = 0
  | 0 => rfl
  | k + 1 => by
    rw [rep_snoc, devS_snoc, flat_devS hx hm k]
    obtain ⟨d, h1, h2⟩ := Flt.sub_int (Flt.fx_Is' (x := x) (by rw [B_val]; omega)) hm (by rw [B_val]; omega)
    have : fsub (Flt.fx x) m = d := by unfold fsub; rw [h1]; rfl
    rw [Int.sub_self, Int.zero_mul] at h2
    rw [this, sq_zero h2, add_zero0]
theorem flat_dev {x : Int} {n m : Nat} (hx : x.natAbs ≤ 1099511627776) (h0 : 0 < n) (hn : n ≤ 4096) (hm : Flt.Is m (x * Flt.one)) : Flt.Is (devF (List.replicate n x) m) 0 := by
  unfold devF
  rw [flat_devS hx hm, List.length_replicate]
  obtain ⟨w, h1, h2⟩ := Flt.div_exact (x := 0) (q := 0) (by rw [Int.zero_mul, Int.zero_mul]; exact is_zero) (nat_is hn) (by omega) (by decide)
  have : fdiv 0 (Flt.fx n) = w := by unfold fdiv; rw [h1]; rfl
  rw [Int.zero_mul] at h2
  rw [this]
  exact root_zero h2
theorem flat_min (x : Int) : ∀ n, 0 < n → minI (List.replicate n x) = x
  | 0, h => by omega
  | 1, _ => rfl
  | n + 2, _ => by rw [rep_snoc, minI_snoc (by simp), flat_min x (n + 1) (by omega)]; simp
theorem flat_max (x : Int) : ∀ n, 0 < n → maxI (List.replicate n x) = x
  | 0, h => by omega
  | 1, _ => rfl
  | n + 2, _ => by rw [rep_snoc, maxI_snoc (by simp), flat_max x (n + 1) (by omega)]; simp
theorem rep_getD {n k : Nat} (x : Int) (h : k < n) : (List.replicate n x).getD k 0 = x := by simp [List.getD, h]
theorem flat_sm {x : Int} {n w : Nat} {p : Int} (hx : x.natAbs ≤ 1099511627776) (hw : Flt.Is w p) (h0 : 0 < p) (h1 : p ≤ Flt.one) : ∀ k, k < n → Flt.Is (smN w (List.replicate n x) k) (x * Flt.one)
  | 0, hk => by
    show Flt.Is (Flt.fx ((List.replicate n x).getD 0 0)) _
    rw [rep_getD x hk]
    exact Flt.fx_Is' (by rw [B_val]; omega)
  | k + 1, hk => by
    have ih := flat_sm (n := n) hx hw h0 h1 k (by omega)
    obtain ⟨d, q, r, e1, e2, e3, h⟩ := Flt.flat_step ih (Flt.fx_Is' (x := x) (by rw [B_val]; omega)) hw h0 h1 (by rw [B_val]; omega)
    show Flt.Is (smS _ _ _) _
    rw [rep_getD x hk]
    unfold smS
    have g1 : fsub (Flt.fx x) (smN w (List.replicate n x) k) = d := by unfold fsub; rw [e1]; rfl
    have g2 : fmul w d = q := by unfold fmul; rw [e2]; rfl
    have g3 : fadd (smN w (List.replicate n x) k) q = r := by unfold fadd; rw [e3]; rfl
    rw [g1, g2, g3]
    exact h
theorem flat_Sm {x : Int} (hx : x.natAbs ≤ 1099511627776) (n : Nat) : Sm (List.replicate n x) := fun y hy => by
  rw [List.mem_replicate] at hy
  obtain ⟨_, rfl⟩ := hy
  omega
end Go.Proofs.Ytkaigmoeagjjgab
