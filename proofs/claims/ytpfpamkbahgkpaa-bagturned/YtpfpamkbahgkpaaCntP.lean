import Derived.Test.YtpfpamkbahgkpaaOps
namespace Go.Proofs.Ytpfpamkbahgkpaa
open Go.RowKit
set_option linter.unusedVariables false

/-- What is counted. -/
structure Cnt (A : AB) (t o : Nat) (born : List Int) : Prop where
  len : (born.length : Int) = A.l
  cnt : (A.ps.length : Int) + t = A.l
  up : A.ps.Pairwise (fun p q => p.n < q.n)
  lo : ∀ p ∈ A.ps, 1 ≤ p.n
  hi : ∀ p ∈ A.ps, p.n ≤ A.l
  age : ∀ p ∈ A.ps, p.a = o - born.getD (p.n - 1).toNat 0

theorem Cnt.new (r : Int) : Cnt (AB.mk r 0 []) 0 0 [] := ⟨by simp, by simp, by simp, by simp, by simp, by simp⟩
theorem Cnt.lay {A : AB} {t o : Nat} {born : List Int} (h : Cnt A t o born) (p : AP) : Cnt (A.lay p) t o (born ++ [(o : Int)]) := by
  have hl := h.len
  have hc := h.cnt
  refine ⟨?_, ?_, ?_, ?_, ?_, ?_⟩
  · simp only [AB.lay, List.length_append, List.length_singleton]; omega
  · simp only [AB.lay, List.length_append, List.length_singleton]; omega
  · simp only [AB.lay]
    rw [List.pairwise_append]
    refine ⟨h.up, by simp, fun a ha b hb => ?_⟩
    obtain rfl := List.mem_singleton.1 hb
    have := h.hi a ha
    simp only; omega
  · intro q hq
    simp only [AB.lay, List.mem_append, List.mem_singleton] at hq
    rcases hq with hq | rfl
    · exact h.lo q hq
    · simp only; omega
  · intro q hq
    simp only [AB.lay, List.mem_append, List.mem_singleton] at hq ⊢
    rcases hq with hq | rfl
    · have := h.hi q hq; omega
    · simp only; omega
  · intro q hq
    simp only [AB.lay, List.mem_append, List.mem_singleton] at hq
    rcases hq with hq | rfl
    · have h1 := h.lo q hq
      have h2 := h.hi q hq
      rw [h.age q hq, List.getD_eq_getElem?_getD, List.getD_eq_getElem?_getD, List.getElem?_append_left (by omega)]
    · simp only
      rw [show (A.l + 1 - 1).toNat = born.length by omega, List.getD_eq_getElem?_getD, List.getElem?_append_right (Nat.le_refl _)]
      simp
theorem Cnt.older {A : AB} {t o : Nat} {born : List Int} (h : Cnt A t o born) : Cnt A.older t (o + 1) born := by
  refine ⟨h.len, by simpa [AB.older] using h.cnt, ?_, ?_, ?_, ?_⟩
  · simp only [AB.older, List.pairwise_map]
    exact h.up
  · intro q hq
    obtain ⟨p, hp, rfl⟩ := List.mem_map.1 hq
    exact h.lo p hp
  · intro q hq
    obtain ⟨p, hp, rfl⟩ := List.mem_map.1 hq
    exact h.hi p hp
  · intro q hq
    obtain ⟨p, hp, rfl⟩ := List.mem_map.1 hq
    have := h.age p hp
    simp only
    omega
theorem Cnt.take {A : AB} {t o : Nat} {born : List Int} (h : Cnt A t o born) {k : Int} (hk : A.takeE k = 0) : Cnt (A.take k) (t + 1) o born := by
  obtain ⟨_, hlt⟩ := AB.at_mem (AB.takeE_has hk)
  have hc := h.cnt
  unfold AB.take
  rw [if_pos hk]
  refine ⟨h.len, ?_, h.up.sublist (List.eraseIdx_sublist _ _), fun p hp => h.lo p (List.mem_of_mem_eraseIdx hp), fun p hp => h.hi p (List.mem_of_mem_eraseIdx hp), fun p hp => h.age p (List.mem_of_mem_eraseIdx hp)⟩
  simp only [List.length_eraseIdx, if_pos hlt]
  omega
/-- A list whose elements show the same numbers. -/
theorem Cnt.flip {A : AB} {t o : Nat} {born : List Int} (h : Cnt A t o born) (k x y : Int) : Cnt (A.flip k x y) t o born := by
  unfold AB.flip
  split
  · rename_i h0
    obtain ⟨hm, hlt⟩ := AB.at_mem (AB.flipE_has h0).1
    have hmem := List.mem_of_getElem? hm
    have key : ∀ q ∈ A.ps.set k.toNat ((A.at k).flip x y), ∃ p ∈ A.ps, q.n = p.n ∧ q.a = p.a := by
      intro q hq
      rcases List.mem_or_eq_of_mem_set hq with hq | rfl
      · exact ⟨q, hq, rfl, rfl⟩
      · exact ⟨A.at k, hmem, rfl, rfl⟩
    refine ⟨h.len, by simpa using h.cnt, ?_, ?_, ?_, ?_⟩
    · have e : (A.ps.set k.toNat ((A.at k).flip x y)).map (·.n) = A.ps.map (·.n) := by
        rw [List.map_set]
        apply List.ext_getElem?
        intro i
        by_cases hi : k.toNat = i
        · subst hi
          rw [List.getElem?_set_self (by simpa using hlt), List.getElem?_map, hm]
          rfl
        · rw [List.getElem?_set_ne hi]
      have h1 := h.up
      have h2 : (A.ps.map (·.n)).Pairwise (· < ·) := List.pairwise_map.2 h1
      rw [← e] at h2
      exact List.pairwise_map.1 h2
    · intro q hq
      obtain ⟨p, hp, e1, e2⟩ := key q hq
      rw [e1]; exact h.lo p hp
    · intro q hq
      obtain ⟨p, hp, e1, e2⟩ := key q hq
      rw [e1]; exact h.hi p hp
    · intro q hq
      obtain ⟨p, hp, e1, e2⟩ := key q hq
      rw [e1, e2]; exact h.age p hp
  · exact h
/-- What a step does to what is counted. -/
theorem Cnt.one_lay {A : AB} {t o : Nat} {born : List Int} (h : Cnt A t o born) {x : Op1} (hk : x.k = 0 ∨ x.k = 2) (hE : A.oneE x = 0) : Cnt (A.one x) t o (born ++ [(o : Int)]) ∧ (A.one x).l = A.l + 1 := by
  rcases hk with hk | hk
  · have e1 : A.oneE x = A.addE x.a x.b := by simp [AB.oneE, hk]
    have e2 : A.one x = A.add x.a x.b x.d := by simp [AB.one, hk]
    rw [e1] at hE
    rw [e2, AB.add, if_pos hE]
    exact ⟨h.lay _, rfl⟩
  · have e1 : A.oneE x = A.dupE x.a := by simp [AB.oneE, hk]
    have e2 : A.one x = A.dup x.a := by simp [AB.one, hk]
    rw [e1] at hE
    rw [e2, AB.dup, if_pos hE]
    exact ⟨h.lay _, rfl⟩
theorem Cnt.one_take {A : AB} {t o : Nat} {born : List Int} (h : Cnt A t o born) {x : Op1} (hk : x.k = 1) (hE : A.oneE x = 0) : Cnt (A.one x) (t + 1) o born ∧ (A.one x).l = A.l := by
  have e1 : A.oneE x = A.takeE x.a := by simp [AB.oneE, hk]
  have e2 : A.one x = A.take x.a := by simp [AB.one, hk]
  rw [e1] at hE
  rw [e2]
  exact ⟨h.take hE, by unfold AB.take; split <;> rfl⟩
theorem Cnt.one_old {A : AB} {t o : Nat} {born : List Int} (h : Cnt A t o born) {x : Op1} (hk : x.k = 4) : Cnt (A.one x) t (o + 1) born ∧ (A.one x).l = A.l ∧ A.oneE x = 0 := by
  have e1 : A.oneE x = 0 := by simp [AB.oneE, hk]
  have e2 : A.one x = A.older := by simp [AB.one, hk]
  rw [e2]
  exact ⟨h.older, rfl, e1⟩
theorem AB.one_none {A : AB} {x : Op1} (hE : A.oneE x ≠ 0) : A.one x = A := by
  unfold AB.oneE at hE
  unfold AB.one
  split
  · rename_i h; rw [if_pos h] at hE; unfold AB.add; rw [if_neg hE]
  · rename_i h0
    rw [if_neg h0] at hE
    split
    · rename_i h; rw [if_pos h] at hE; unfold AB.take; rw [if_neg hE]
    · rename_i h1
      rw [if_neg h1] at hE
      split
      · rename_i h; rw [if_pos h] at hE; unfold AB.dup; rw [if_neg hE]
      · rename_i h2
        rw [if_neg h2] at hE
        split
        · rename_i h; rw [if_pos h] at hE; unfold AB.flip; rw [if_neg hE]
        · rename_i h3
          rw [if_neg h3] at hE
          exact absurd rfl hE
theorem Cnt.one_rest {A : AB} {t o : Nat} {born : List Int} (h : Cnt A t o born) {x : Op1} (hk : A.oneE x ≠ 0 ∨ (x.k ≠ 0 ∧ x.k ≠ 1 ∧ x.k ≠ 2 ∧ x.k ≠ 4)) : Cnt (A.one x) t o born ∧ (A.one x).l = A.l := by
  rcases hk with hk | ⟨h0, h1, h2, h4⟩
  · rw [AB.one_none hk]
    exact ⟨h, rfl⟩
  · by_cases h3 : x.k = 3
    · have e2 : A.one x = A.flip x.a x.b x.y := by simp [AB.one, h3]
      rw [e2]
      exact ⟨h.flip _ _ _, by unfold AB.flip; split <;> rfl⟩
    · have e2 : A.one x = A := by simp [AB.one, h0, h1, h2, h3, h4]
      rw [e2]
      exact ⟨h, rfl⟩
/-- The number ahead of a place. -/
def lastN (l : List AP) (j : Nat) : Int := if j = 0 then 0 else (l.getD (j - 1) AP.zero).n
theorem Cnt.at {A : AB} {t o : Nat} {born : List Int} (h : Cnt A t o born) {k : Nat} (hk : A.Ok k) {j : Nat} {p : AP} (hp : A.ps[j]? = some p) : ∃ (N : Nat) (c : Int), p.n = (N : Int) + 1 ∧ born[N]? = some c ∧ p.a = o - c ∧ 0 ≤ (o : Int) - c ∧ (o : Int) - c ≤ k ∧ lastN A.ps j < (N : Int) + 1 ∧ lastN A.ps (j + 1) = (N : Int) + 1 := by
  have hm := List.mem_of_getElem? hp
  have h1 := h.lo p hm
  have h2 := h.hi p hm
  have h3 := h.age p hm
  have h4 := h.len
  have h5 := hk.a0 p hm
  have h6 := hk.a1 p hm
  have hN : (p.n - 1).toNat < born.length := by omega
  have hj := (List.getElem?_eq_some_iff.1 hp).1
  rw [List.getD_eq_getElem?_getD, List.getElem?_eq_getElem hN, Option.getD_some] at h3
  refine ⟨(p.n - 1).toNat, born[(p.n - 1).toNat], by omega, List.getElem?_eq_getElem hN, h3, by omega, by omega, ?_, ?_⟩
  · unfold lastN
    split
    · omega
    · have hjl : j - 1 < A.ps.length := by omega
      rw [List.getD_eq_getElem?_getD, List.getElem?_eq_getElem hjl, Option.getD_some]
      have := List.pairwise_iff_getElem.1 h.up (j - 1) j hjl hj (by omega)
      have e : A.ps[j] = p := by rw [List.getElem?_eq_getElem hj] at hp; simpa using hp
      rw [e] at this
      omega
  · unfold lastN
    rw [if_neg (by omega), Nat.add_sub_cancel, List.getD_eq_getElem?_getD, hp, Option.getD_some]
    omega
theorem AB.one_r (A : AB) (x : Op1) : (A.one x).r = A.r := by
  unfold AB.one
  split
  · unfold AB.add; split <;> rfl
  · split
    · unfold AB.take; split <;> rfl
    · split
      · unfold AB.dup; split <;> rfl
      · split
        · unfold AB.flip; split <;> rfl
        · split <;> rfl
end Go.Proofs.Ytpfpamkbahgkpaa
