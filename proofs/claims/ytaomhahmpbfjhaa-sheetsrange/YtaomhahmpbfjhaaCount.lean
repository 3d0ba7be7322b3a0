import Derived.Test.YtaomhahmpbfjhaaGiven
namespace Go.Proofs.Ytaomhahmpbfjhaa
open Go.RowKit
set_option linter.unusedVariables false

theorem sel_cons (N : Nodes) (lv a k : Nat) (l : List Nat) : sel N lv a (k :: l) = (if lv ≤ k ∧ a < (N k).1 then [(k - lv, (N k).1, (N k).2.2)] else []) ++ sel N lv a l := by
  unfold sel
  by_cases h : lv ≤ k ∧ a < (N k).1
  · simp [h]
  · simp [h]

/-- Where something is newer, a sheet is found. -/
theorem vis_found {N : Nodes} {lv a : Nat} (hO : ∀ j, 1 ≤ j → j < lv → Ord N j) : ∀ e k, Ht lv e k → 1 ≤ k → a < (N k).1 → 1 ≤ (sel N lv a (vis N a e k)).length
  | 0, k, hh, hk, ha => by
    have := hh.leaf
    simp [vis, sel, this.1, ha]
  | e + 1, k, hh, hk, ha => by
    obtain ⟨h1, h2, h3⟩ := hh.inner
    have ho := hO k hk h1
    unfold Ord at ho
    have hc : ¬ (N k).1 ≤ a := by omega
    rw [vis, if_neg hc, sel_cons, if_neg (by omega), List.nil_append, sel_append, List.length_append]
    by_cases h4 : a < (N (2 * k)).1
    · have := vis_found (a := a) hO e (2 * k) h2 (by omega) h4
      omega
    · have := vis_found (a := a) hO e (2 * k + 1) h3 (by omega) (by omega)
      omega

/-- No more nodes than so many for each sheet that is found. -/
theorem vis_bound {N : Nodes} {lv a : Nat} (hO : ∀ j, 1 ≤ j → j < lv → Ord N j) : ∀ e k, Ht lv e k → 1 ≤ k → (vis N a e k).length ≤ 1 + 2 * e * (sel N lv a (vis N a e k)).length
  | 0, k, hh, hk => by simp [vis]
  | e + 1, k, hh, hk => by
    obtain ⟨h1, h2, h3⟩ := hh.inner
    by_cases hc : (N k).1 ≤ a
    · rw [vis, if_pos hc]; simp
    · have hf := vis_found (a := a) hO (e + 1) k hh hk (by omega)
      have b1 := vis_bound (a := a) hO e (2 * k) h2 (by omega)
      have b2 := vis_bound (a := a) hO e (2 * k + 1) h3 (by omega)
      rw [vis, if_neg hc, sel_cons, if_neg (by omega), List.nil_append, sel_append, List.length_append] at hf ⊢
      rw [List.length_cons, List.length_append]
      generalize (sel N lv a (vis N a e (2 * k))).length = f1 at *
      generalize (sel N lv a (vis N a e (2 * k + 1))).length = f2 at *
      have e1 : 2 * e * (f1 + f2) = 2 * e * f1 + 2 * e * f2 := Nat.mul_add _ _ _
      have e2 : 2 * (e + 1) * (f1 + f2) = 2 * e * (f1 + f2) + 2 * (f1 + f2) := by rw [Nat.mul_add 2 e 1, Nat.add_mul]
      omega

theorem vis_pos (N : Nodes) (a e k : Nat) : 1 ≤ (vis N a e k).length := by
  cases e with
  | zero => simp [vis]
  | succ e => unfold vis; split <;> simp
theorem vis_one {N : Nodes} {a e k : Nat} (h : (N k).1 ≤ a) : (vis N a e k).length = 1 := by
  cases e with
  | zero => simp [vis]
  | succ e => rw [vis, if_pos h]; rfl
theorem vis_three {N : Nodes} {a e k : Nat} (h : ¬ (N k).1 ≤ a) : 3 ≤ (vis N a (e + 1) k).length := by
  rw [vis, if_neg h]
  have h1 := vis_pos N a e (2 * k)
  have h2 := vis_pos N a e (2 * k + 1)
  simp only [List.length_cons, List.length_append]
  omega

/-- What the law asks of a book. -/
theorem looks_ok {P : Pool} {n h : Nat} {ps : List Nat} {N : Nodes} {S : Sheets} (hB : Bk P n (2 ^ h) ps N S) (hh : h ≤ 6) (at_ : Int) :
    let k := (sel N (2 ^ h) at_.toNat (vis N at_.toNat h 1)).length
    let lk := looksN N at_ h
    k ≤ 127 ∧ lk ≤ 127 ∧ (k = 0 → lk = 1) ∧ (k ≠ 0 → lk ≤ 1 + 12 * k ∧ 1 ≤ lk ∧ (n > 1 ∨ lk = 1) ∧ (n = 1 ∨ lk ≥ 3)) := by
  intro k lk
  have hO := hB.ord
  have b := vis_bound (a := at_.toNat) hO h 1 (Ht.root h) (by omega)
  have l127 := vis_127 N at_.toNat hh 1
  have n1 := hB.n1
  have nlv := hB.nlv
  have lvn := hB.lvn
  have k64 : k ≤ 127 := Nat.le_trans (sel_len _ _ _ _) l127
  refine ⟨k64, l127, fun hk => ?_, fun hk => ?_⟩
  · by_cases hc : (N 1).1 ≤ at_.toNat
    · exact vis_one hc
    · have := vis_found hO h 1 (Ht.root h) (by omega) (by omega : at_.toNat < (N 1).1)
      have hk' : (sel N (2 ^ h) at_.toNat (vis N at_.toNat h 1)).length = 0 := hk
      omega
  · have hc : ¬ (N 1).1 ≤ at_.toNat := by
      intro hc
      apply hk
      show (sel N (2 ^ h) at_.toNat (vis N at_.toNat h 1)).length = 0
      have h1 : vis N at_.toNat h 1 = [1] := by
        cases h with
        | zero => rfl
        | succ e => rw [vis, if_pos hc]
      rw [h1, sel_cons, if_neg (by omega)]
      rfl
    have hb : lk ≤ 1 + 2 * h * k := b
    have h12 : 2 * h * k ≤ 12 * k := Nat.mul_le_mul_right k (by omega)
    refine ⟨by omega, vis_pos _ _ _ _, ?_, ?_⟩
    · by_cases hn : n > 1
      · exact .inl hn
      · right
        have : h = 0 := by
          cases h with
          | zero => rfl
          | succ e =>
            have : 2 ^ (e + 1) = 2 * 2 ^ e := by rw [Nat.pow_succ]; omega
            have hp : 0 < 2 ^ e := Nat.pow_pos (by omega)
            omega
        subst this
        rfl
    · by_cases hn : n = 1
      · exact .inl hn
      · right
        cases h with
        | zero => simp at nlv; omega
        | succ e => exact vis_three hc

end Go.Proofs.Ytaomhahmpbfjhaa
