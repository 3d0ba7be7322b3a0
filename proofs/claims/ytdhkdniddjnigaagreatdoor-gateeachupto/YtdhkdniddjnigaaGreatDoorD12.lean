import Derived.Test.YtdhkdniddjnigaaGreatDoorD9
namespace Go.Proofs.YtdhkdniddjnigaaGreatDoor
open Go.RowKit
set_option linter.unusedVariables false

theorem kindW_some {x : List UInt8} {k : Nat} (h : kindW x = some k) : nmN k = x := by
  have key : ∀ {l : Ws} {a j : Nat}, findW x a l = some j → l.getD (j - a) [] = x := by
    intro l
    induction l with
    | nil => intro a j h; simp [findW] at h
    | cons y r ih =>
      intro a j h
      have hb : a ≤ j := by
        have : ∀ {l : Ws} {a j : Nat}, findW x a l = some j → a ≤ j := by
          intro l
          induction l with
          | nil => intro a j h; simp [findW] at h
          | cons y r ih =>
            intro a j h
            rw [findW] at h
            split at h
            · simp only [Option.some.injEq] at h; omega
            · have := ih h; omega
        exact this h
      rw [findW] at h
      split at h
      · rename_i hy
        simp only [Option.some.injEq] at h
        subst h
        simp [hy]
      · rename_i hy
        have h1 := ih h
        have hlt : a + 1 ≤ j := by
          have : ∀ {l : Ws} {a j : Nat}, findW x a l = some j → a ≤ j := by
            intro l
            induction l with
            | nil => intro a j h; simp [findW] at h
            | cons y r ih =>
              intro a j h
              rw [findW] at h
              split at h
              · simp only [Option.some.injEq] at h; omega
              · have := ih h; omega
          exact this h
        have : j - a = (j - (a + 1)) + 1 := by omega
        rw [this, List.getD_cons_succ]
        exact h1
  obtain ⟨h1, h9⟩ := kindW_lt h
  have := key h
  rw [← this]
  obtain rfl | rfl | rfl | rfl | rfl | rfl | rfl | rfl : k = 1 ∨ k = 2 ∨ k = 3 ∨ k = 4 ∨ k = 5 ∨ k = 6 ∨ k = 7 ∨ k = 8 := by omega
  all_goals rfl
/-- The fields by the kind. -/
theorem goO_1 {k : Nat} (h : k = 1 ∨ k = 2 ∨ k = 7) (ws : Ws) : goO (ltN k) ws ⟨(k : Int), [], [], 0, 0⟩ = some ⟨(k : Int), ws.getD 0 [], [], 0, 0⟩ := by
  rcases h with rfl | rfl | rfl <;> rfl
theorem goO_8 (ws : Ws) : goO (ltN 8) ws ⟨((8 : Nat) : Int), [], [], 0, 0⟩ = some ⟨((8 : Nat) : Int), [], [], 0, 0⟩ := rfl
theorem goO_3 {k : Nat} (h : k = 3 ∨ k = 5) (ws : Ws) : goO (ltN k) ws ⟨(k : Int), [], [], 0, 0⟩ = some ⟨(k : Int), ws.getD 0 [], ws.getD 1 [], 0, 0⟩ := by
  have e : (ws.drop 1).getD 0 [] = ws.getD 1 [] := by simp [List.getD]
  rw [← e]
  rcases h with rfl | rfl <;> rfl
theorem goO_4 (ws : Ws) : goO (ltN 4) ws ⟨((4 : Nat) : Int), [], [], 0, 0⟩ = if (numW (ws.getD 1 [])).isSome then some ⟨((4 : Nat) : Int), ws.getD 0 [], [], (numW (ws.getD 1 [])).getD 0, 0⟩ else none := by
  have e : (ws.drop 1).getD 0 [] = ws.getD 1 [] := by simp [List.getD]
  rw [← e]
  rfl
theorem goO_6 (ws : Ws) : goO (ltN 6) ws ⟨((6 : Nat) : Int), [], [], 0, 0⟩ = if (numW (ws.getD 1 [])).isSome then (if (numW (ws.getD 2 [])).isSome then some ⟨((6 : Nat) : Int), ws.getD 0 [], [], (numW (ws.getD 1 [])).getD 0, (numW (ws.getD 2 [])).getD 0⟩ else none) else none := by
  have e : (ws.drop 1).getD 0 [] = ws.getD 1 [] := by simp [List.getD]
  have e2 : ((ws.drop 1).drop 1).getD 0 [] = ws.getD 2 [] := by simp [List.getD]
  rw [← e, ← e2]
  rfl
theorem spelt {x : List UInt8} (h : (numW x).isSome = true) : Lib.decDigits ((numW x).getD 0) = x := by
  obtain ⟨v, hv⟩ := Option.isSome_iff_exists.1 h
  rw [hv]
  exact (numW_spelt hv).symm
theorem take_getD {ws : Ws} {n : Nat} (h : n < ws.length) : ws.take (n + 1) = ws.take n ++ [ws.getD n []] := by
  rw [List.take_add_one, List.getElem?_eq_getElem h]
  simp [List.getD, h]
/-- Fields read well are fields written. -/
theorem goO_ok {k : Nat} {ws : Ws} {o : OpR} (h1 : 1 ≤ k) (h9 : k < 9) (hl : (ltN k).length ≤ ws.length) (h : goO (ltN k) ws ⟨(k : Int), [], [], 0, 0⟩ = some o) : o.k = k ∧ flds o.nm o.tx o.n o.m (ltN k) = ws.take (ltN k).length := by
  have t1 : 0 < ws.length → ws.take 1 = [ws.getD 0 []] := fun h => by rw [take_getD h]; simp
  have t2 : 1 < ws.length → ws.take 2 = [ws.getD 0 [], ws.getD 1 []] := fun h => by rw [take_getD h, t1 (by omega)]; rfl
  have t3 : 2 < ws.length → ws.take 3 = [ws.getD 0 [], ws.getD 1 [], ws.getD 2 []] := fun h => by rw [take_getD h, t2 (by omega)]; rfl
  obtain rfl | rfl | rfl | rfl | rfl | rfl | rfl | rfl : k = 1 ∨ k = 2 ∨ k = 3 ∨ k = 4 ∨ k = 5 ∨ k = 6 ∨ k = 7 ∨ k = 8 := by omega
  · rw [goO_1 (by omega)] at h
    obtain rfl := Option.some.inj h
    exact ⟨rfl, (t1 hl).symm⟩
  · rw [goO_1 (by omega)] at h
    obtain rfl := Option.some.inj h
    exact ⟨rfl, (t1 hl).symm⟩
  · rw [goO_3 (by omega)] at h
    obtain rfl := Option.some.inj h
    exact ⟨rfl, (t2 hl).symm⟩
  · rw [goO_4] at h
    split at h
    · rename_i hs
      obtain rfl := Option.some.inj h
      refine ⟨rfl, ?_⟩
      show [_, Lib.decDigits _] = ws.take 2
      rw [t2 hl, spelt hs]
      rfl
    · cases h
  · rw [goO_3 (by omega)] at h
    obtain rfl := Option.some.inj h
    exact ⟨rfl, (t2 hl).symm⟩
  · rw [goO_6] at h
    split at h
    · rename_i hs
      split at h
      · rename_i hs2
        obtain rfl := Option.some.inj h
        refine ⟨rfl, ?_⟩
        show [_, Lib.decDigits _, Lib.decDigits _] = ws.take 3
        rw [t3 hl, spelt hs, spelt hs2]
        rfl
      · cases h
    · cases h
  · rw [goO_1 (by omega)] at h
    obtain rfl := Option.some.inj h
    exact ⟨rfl, (t1 hl).symm⟩
  · rw [goO_8] at h
    obtain rfl := Option.some.inj h
    exact ⟨rfl, rfl⟩
/-- What is read well is what is written. -/
theorem readO_ok {l : Ws} (h : (readO l).e = 0) : chkR8 (readO l).o = 0 ∧ opA (readO l).o.k (readO l).o.nm (readO l).o.tx ((readO l).o.n : Int) ((readO l).o.m : Int) = l.take (readO l).k ∧ (readO l).k ≤ l.length := by
  cases l with
  | nil => exact absurd h (by decide)
  | cons x ws =>
    cases hk : kindW x with
    | none =>
      have e : readO (x :: ws) = .bad 163 := by
        unfold readO
        rw [if_neg (by simp)]
        have e : (x :: ws).getD 0 [] = x := rfl
        rw [e, hk]
      rw [e] at h
      exact absurd h (by decide)
    | some k =>
      obtain ⟨h1, h9⟩ := kindW_lt hk
      have e := readO_eq (ws := ws) hk
      by_cases hl : (x :: ws).length < 1 + (ltN k).length
      · rw [e, if_pos hl] at h
        exact absurd h (by decide)
      · rw [if_neg hl] at e
        cases hg : goO (ltN k) ws ⟨(k : Int), [], [], 0, 0⟩ with
        | none =>
          rw [hg] at e
          simp only at e
          rw [e] at h
          exact absurd h (by decide)
        | some o =>
          rw [hg] at e
          simp only at e
          by_cases hc : chkR8 o ≠ 0
          · rw [e, if_pos hc] at h
            exact absurd h hc
          · rw [if_neg hc] at e
            have hc0 : chkR8 o = 0 := Classical.byContradiction hc
            rw [e]
            have hlw : (ltN k).length ≤ ws.length := by simp only [List.length_cons] at hl; omega
            obtain ⟨ok, of⟩ := goO_ok h1 h9 hlw hg
            refine ⟨hc0, ?_, by simp only [List.length_cons]; omega⟩
            simp only
            unfold opA
            have hc1 : chkO o.k o.nm o.tx (o.n : Int) (o.m : Int) = 0 := hc0
            rw [hc1, if_neg (by simp), ok]
            simp only [Int.toNat_natCast]
            unfold opW
            rw [of, kindW_some hk, Nat.add_comm 1]
            rfl
end Go.Proofs.YtdhkdniddjnigaaGreatDoor
