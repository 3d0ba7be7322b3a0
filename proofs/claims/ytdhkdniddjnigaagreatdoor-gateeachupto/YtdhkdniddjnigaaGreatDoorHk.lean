import Derived.Test.YtdhkdniddjnigaaGreatDoorJn
import Derived.Test.YtdhkdniddjnigaaGreatDoorNm
namespace Go.Proofs.YtdhkdniddjnigaaGreatDoor
set_option linter.unusedVariables false

/-- What digits say. -/
def valD : Nat → List UInt8 → Nat
  | acc, [] => acc
  | acc, c :: r => valD (10 * acc + (c.toNat - 48)) r
theorem valD_append (a b : List UInt8) : ∀ acc, valD acc (a ++ b) = valD (valD acc a) b := by
  induction a with
  | nil => intro acc; rfl
  | cons c r ih => intro acc; exact ih _
theorem valD_ge : ∀ (l : List UInt8) (acc : Nat), acc ≤ valD acc l
  | [], acc => Nat.le_refl _
  | c :: r, acc => Nat.le_trans (show acc ≤ 10 * acc + (c.toNat - 48) by omega) (valD_ge r _)
theorem valD_take (l : List UInt8) (j : Nat) : valD 0 (l.take j) ≤ valD 0 l := by
  conv => rhs; rw [← List.take_append_drop j l, valD_append]
  exact valD_ge _ _
theorem valD_digits : ∀ v : Nat, valD 0 (Lib.decDigits v) = v := by
  intro v
  induction v using Nat.strongRecOn with
  | _ v ih =>
    rw [Lib.decDigits]
    split
    · rename_i h
      show 10 * 0 + ((UInt8.ofNat (48 + v)).toNat - 48) = v
      rw [toNat_dig h]; omega
    · rename_i h
      rw [valD_append, ih (v / 10) (by omega)]
      show 10 * (v / 10) + ((UInt8.ofNat (48 + v % 10)).toNat - 48) = v
      rw [toNat_dig (by omega)]; omega
theorem digits_all : ∀ v : Nat, ∀ c ∈ Lib.decDigits v, 48 ≤ c.toNat ∧ c.toNat ≤ 57 := by
  intro v
  induction v using Nat.strongRecOn with
  | _ v ih =>
    rw [Lib.decDigits]
    split
    · rename_i h
      intro c hc
      simp only [List.mem_singleton] at hc
      subst hc
      rw [toNat_dig h]; omega
    · rename_i h
      intro c hc
      rcases List.mem_append.1 hc with h1 | h1
      · exact ih (v / 10) (by omega) c h1
      · simp only [List.mem_singleton] at h1
        subst h1
        rw [toNat_dig (by omega)]; omega
theorem digits_bare (v : Nat) : isBareW (Lib.decDigits v) = true :=
  decide_eq_true ⟨digits_ne v, fun b hb => by
    have := digits_all v b hb
    exact decide_eq_true (Or.inr (Or.inr (Or.inl this)))⟩
/-- No word as it is written holds a line's end. -/
theorem wrtW_no (x : List UInt8) : (10 : UInt8) ∉ wrtW x := by
  unfold wrtW
  split
  · rename_i h
    intro hm
    exact absurd ((bareW_all h).2 _ hm) (by decide)
  · intro hm
    rcases List.mem_cons.1 hm with h1 | h1
    · exact absurd h1 (by decide)
    · rcases List.mem_append.1 h1 with h2 | h2
      · unfold escW at h2
        obtain ⟨b, _, hb⟩ := List.mem_flatMap.1 h2
        unfold escB at hb
        split at hb
        · rename_i hp
          split at hb
          · simp only [List.mem_cons, List.not_mem_nil, or_false] at hb
            rcases hb with hb | hb
            · exact absurd hb (by decide)
            · rw [← hb] at hp; exact absurd hp (by decide)
          · simp only [List.mem_singleton] at hb
            rw [← hb] at hp; exact absurd hp (by decide)
        · have hx : ∀ n, n < 16 → (10 : UInt8) ≠ hexD n := by
            intro n hn e
            have := congrArg UInt8.toNat e
            rw [hexD_nat hn] at this
            have h10 : (10 : UInt8).toNat = 10 := rfl
            rw [h10] at this
            split at this <;> omega
          have hb2 := b.toNat_lt
          simp only [List.mem_cons, List.not_mem_nil, or_false] at hb
          rcases hb with hb | hb | hb | hb
          · exact absurd hb (by decide)
          · exact absurd hb (by decide)
          · exact hx _ (by omega) hb
          · exact hx _ (by omega) hb
      · simp only [List.mem_singleton] at h2
        exact absurd h2 (by decide)
theorem tailW_no (l : Ws) : (10 : UInt8) ∉ tailW l := by
  unfold tailW
  intro hm
  obtain ⟨b, _, hb⟩ := List.mem_flatMap.1 hm
  rcases List.mem_cons.1 hb with h1 | h1
  · exact absurd h1 (by decide)
  · exact wrtW_no _ h1
/-- Lines that are told: their numbers rise, above the first, up to the second. -/
inductive Told : Nat → Nat → List UInt8 → Prop where
  | nil {a b : Nat} : Told a b []
  | line {a b u : Nat} {r more : List UInt8} (h1 : a < u) (h2 : u ≤ b) (h3 : (10 : UInt8) ∉ r) (h : Told u b more) : Told a b (Lib.decDigits u ++ (32 :: (r ++ (10 :: more))))
theorem Told.more {a b c : Nat} {l : List UInt8} (h : Told a b l) (hb : b ≤ c) : Told a c l := by
  induction h with
  | nil => exact .nil
  | line h1 h2 h3 h ih => exact .line h1 (Nat.le_trans h2 hb) h3 (ih hb)
theorem Told.last {a b u : Nat} {l r : List UInt8} (h : Told a b l) (ha : a < u) (hb : b < u) (hr : (10 : UInt8) ∉ r) : Told a u (l ++ (Lib.decDigits u ++ (32 :: (r ++ [10])))) := by
  induction h with
  | nil => exact .line ha (Nat.le_refl _) hr .nil
  | line h1 h2 h3 h ih =>
    have := Told.line h1 (Nat.le_trans h2 (Nat.le_of_lt hb)) h3 (ih (by omega) hb)
    simpa [List.append_assoc] using this
theorem line_form (u : Nat) (x : List UInt8) (ws : Ws) : joinW (Lib.decDigits u :: x :: ws) ++ [10] = Lib.decDigits u ++ (32 :: ((wrtW x ++ tailW ws) ++ [10])) := by
  show (wrtW (Lib.decDigits u) ++ tailW (x :: ws)) ++ [10] = _
  have e : wrtW (Lib.decDigits u) = Lib.decDigits u := by unfold wrtW; rw [if_pos (digits_bare u)]
  have e2 : tailW (x :: ws) = 32 :: (wrtW x ++ tailW ws) := by simp [tailW]
  rw [e, e2]
  simp
theorem Told.snoc {a b u : Nat} {l : List UInt8} (h : Told a b l) (ha : a < u) (hb : b < u) (x : List UInt8) (ws : Ws) : Told a u (l ++ (joinW (Lib.decDigits u :: x :: ws) ++ [10])) := by
  rw [line_form]
  refine h.last ha hb ?_
  intro hm
  rcases List.mem_append.1 hm with h1 | h1
  · exact wrtW_no _ h1
  · exact tailW_no _ h1
theorem valD_succ (l : List UInt8) {j : Nat} {c : UInt8} (h : l[j]? = some c) : valD 0 (l.take (j + 1)) = 10 * valD 0 (l.take j) + (c.toNat - 48) := by
  rw [List.take_add_one, h, valD_append]
  rfl
/-- What stands at the head of lines that are told. -/
theorem Told.parts {a b : Nat} {l : List UInt8} (h : Told a b l) (hne : l ≠ []) : ∃ (u d e : Nat) (more : List UInt8), a < u ∧ u ≤ b ∧ 1 ≤ d ∧ d < e ∧ e + 1 ≤ l.length ∧ (l.drop (e + 1) = more ∧ Told u b more) ∧ (∃ V : Nat → Nat, V 0 = 0 ∧ V d = u ∧ ∀ j, j < d → ∃ c : UInt8, l[j]? = some c ∧ 48 ≤ c.toNat ∧ c.toNat ≤ 57 ∧ V (j + 1) = 10 * V j + (c.toNat - 48) ∧ V j ≤ u) ∧ l[d]? = some 32 ∧ (∀ j, j < e → ∃ c : UInt8, l[j]? = some c ∧ c ≠ 10) ∧ l[e]? = some 10 := by
  cases h with
  | nil => exact absurd rfl hne
  | @line _ _ u r more h1 h2 h3 h4 =>
    obtain ⟨D, hD⟩ : ∃ D, D = Lib.decDigits u := ⟨_, rfl⟩
    have hd : 1 ≤ D.length := by
      rw [hD]
      have := digits_ne u
      cases hx : Lib.decDigits u with
      | nil => exact absurd hx this
      | cons a b => simp
    have hall := digits_all u
    have hv := valD_digits u
    rw [← hD] at hall hv ⊢
    refine ⟨u, D.length, D.length + (1 + r.length), more, h1, h2, hd, by omega, ?_, ⟨?_, h4⟩, ⟨fun j => valD 0 (D.take j), rfl, ?_, fun j hj => ?_⟩, ?_, fun j hj => ?_, ?_⟩
    · simp only [List.length_append, List.length_cons]; omega
    · rw [show D ++ (32 :: (r ++ (10 :: more))) = (D ++ (32 :: (r ++ [10]))) ++ more by simp]
      exact List.drop_left' (by simp only [List.length_append, List.length_cons, List.length_nil]; omega)
    · show valD 0 (D.take D.length) = u
      rw [List.take_length]; exact hv
    · have hj2 : D[j]? = some D[j] := List.getElem?_eq_getElem hj
      refine ⟨D[j], by rw [List.getElem?_append_left hj, hj2], (hall _ (List.getElem_mem hj)).1, (hall _ (List.getElem_mem hj)).2, valD_succ D hj2, ?_⟩
      show valD 0 (D.take j) ≤ u
      exact Nat.le_trans (valD_take D j) (Nat.le_of_eq hv)
    · rw [List.getElem?_append_right (Nat.le_refl _), Nat.sub_self]; rfl
    · by_cases hj1 : j < D.length
      · have hj2 : D[j]? = some D[j] := List.getElem?_eq_getElem hj1
        refine ⟨D[j], by rw [List.getElem?_append_left hj1, hj2], fun e => ?_⟩
        have := (hall _ (List.getElem_mem hj1)).1
        rw [e] at this
        exact absurd this (by decide)
      · rw [List.getElem?_append_right (by omega)]
        by_cases hj2 : j - D.length = 0
        · rw [hj2]; exact ⟨32, rfl, by decide⟩
        · obtain ⟨i, hi⟩ : ∃ i, j - D.length = i + 1 := ⟨j - D.length - 1, by omega⟩
          have hir : i < r.length := by omega
          rw [hi, List.getElem?_cons_succ, List.getElem?_append_left hir, List.getElem?_eq_getElem hir]
          exact ⟨_, rfl, fun e => h3 (e ▸ List.getElem_mem hir)⟩
    · rw [List.getElem?_append_right (by omega), show D.length + (1 + r.length) - D.length = r.length + 1 by omega, List.getElem?_cons_succ, List.getElem?_append_right (Nat.le_refl _), Nat.sub_self]
      rfl
end Go.Proofs.YtdhkdniddjnigaaGreatDoor
