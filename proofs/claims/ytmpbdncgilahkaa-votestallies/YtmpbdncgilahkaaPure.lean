import Derived.Test.YtmpbdncgilahkaaPoint
namespace Go.Proofs.Ytmpbdncgilahkaa
open Go.RowKit
set_option linter.unusedVariables false

/-- How many are at or above. -/
def ge (y : Int) (xs : List Int) : Nat := xs.countP fun x => decide (y ≤ x)
def gt (y : Int) (xs : List Int) : Nat := xs.countP fun x => decide (y < x)

theorem srt_perm (xs : List Int) : (srt xs).Perm xs := List.mergeSort_perm _ _
theorem srt_sorted (xs : List Int) : (srt xs).Pairwise (· ≤ ·) := by
  have h := List.pairwise_mergeSort (le := fun x y : Int => decide (x ≤ y)) (fun a b c h1 h2 => by simp at *; omega) (fun a b => by simp; omega) xs
  exact h.imp (fun h => by simpa using h)
theorem ge_srt (y : Int) (xs : List Int) : ge y (srt xs) = ge y xs := (srt_perm xs).countP_eq _
theorem gt_srt (y : Int) (xs : List Int) : gt y (srt xs) = gt y xs := (srt_perm xs).countP_eq _

theorem sorted_ge : ∀ (s : List Int) (j : Nat) (k : Int), s.Pairwise (· ≤ ·) → s[j]? = some k → s.length - j ≤ ge k s
  | [], j, k, _, h => by simp at h
  | a :: s, 0, k, hp, h => by
    obtain rfl : a = k := by simpa using h
    have : ge a (a :: s) = (a :: s).length := by
      unfold ge
      rw [List.countP_eq_length]
      intro x hx
      rcases List.mem_cons.1 hx with rfl | hx
      · simp
      · simpa using List.rel_of_pairwise_cons hp hx
    omega
  | a :: s, j + 1, k, hp, h => by
    have ih := sorted_ge s j k hp.of_cons (by simpa using h)
    have : ge k s ≤ ge k (a :: s) := by unfold ge; rw [List.countP_cons]; omega
    simp at *; omega

theorem sorted_gt : ∀ (s : List Int) (j : Nat) (k : Int), s.Pairwise (· ≤ ·) → s[j]? = some k → gt k s + j + 1 ≤ s.length
  | [], j, k, _, h => by simp at h
  | a :: s, 0, k, hp, h => by
    obtain rfl : a = k := by simpa using h
    have : gt a (a :: s) ≤ s.length := by
      unfold gt
      rw [List.countP_cons]
      have := List.countP_le_length (p := fun x => decide (a < x)) (l := s)
      simp; exact this
    simp; omega
  | a :: s, j + 1, k, hp, h => by
    have hs : s[j]? = some k := by simpa using h
    have ih := sorted_gt s j k hp.of_cons hs
    have hak : a ≤ k := List.rel_of_pairwise_cons hp (List.mem_of_getElem? hs)
    have : gt k (a :: s) = gt k s := by
      unfold gt; rw [List.countP_cons, if_neg (by simp; omega)]; rfl
    simp at *; omega

theorem gt_ge {k y : Int} (xs : List Int) (h : k < y) : ge y xs ≤ gt k xs := List.countP_mono_left fun x _ hx => by simp at *; omega

section
variable {n : Nat} {xs : List Int}
theorem maj_nat (hf : fl n = true) : (maj n).toNat + ((n : Int) - maj n).toNat = n ∧ ((n : Int) - maj n).toNat < n ∧ 0 ≤ maj n := by
  rcases fl_cases hf with h | h | h
  · obtain rfl : n = 3 := by omega
    decide
  · obtain rfl : n = 5 := by omega
    decide
  · obtain rfl : n = 7 := by omega
    decide
theorem pnt_at (hf : fl n = true) (hn : xs.length = n) : (srt xs)[((n : Int) - maj n).toNat]? = some (pnt n xs) := by
  have hl : ((n : Int) - maj n).toNat < (srt xs).length := by rw [srt_len, hn]; exact (maj_nat hf).2.1
  rw [List.getElem?_eq_getElem hl, pnt, List.getD, List.getElem?_eq_getElem hl]; rfl
theorem pnt_mem (hf : fl n = true) (hn : xs.length = n) : pnt n xs ∈ xs := (srt_perm xs).mem_iff.1 (List.mem_of_getElem? (pnt_at hf hn))
theorem pnt_ge (hf : fl n = true) (hn : xs.length = n) : (maj n).toNat ≤ ge (pnt n xs) xs := by
  have := sorted_ge _ _ _ (srt_sorted xs) (pnt_at hf hn)
  rw [ge_srt, srt_len] at this
  have := maj_nat hf; omega
theorem pnt_gt (hf : fl n = true) (hn : xs.length = n) : gt (pnt n xs) xs < (maj n).toNat := by
  have := sorted_gt _ _ _ (srt_sorted xs) (pnt_at hf hn)
  rw [gt_srt, srt_len] at this
  have := maj_nat hf; omega
theorem pnt_max (hf : fl n = true) (hn : xs.length = n) {y : Int} (hy : (maj n).toNat ≤ ge y xs) : y ≤ pnt n xs := by
  rcases Int.lt_or_le (pnt n xs) y with h | h
  · have := gt_ge xs h
    have := pnt_gt hf hn
    omega
  · exact h
end

/-- The document's way: the greatest that enough are at or above. -/
def stepP (m : Nat) (xs : List Int) (a : Int × Bool) (x : Int) : Int × Bool := if m ≤ ge x xs ∧ (a.2 = false ∨ a.1 < x) then (x, true) else a
def bst (m : Nat) (xs ys : List Int) : Int × Bool := ys.foldl (stepP m xs) (0, false)

theorem bst_snoc (m : Nat) (xs ys : List Int) (x : Int) : bst m xs (ys ++ [x]) = stepP m xs (bst m xs ys) x := by simp [bst]

/-- What has been found is the greatest of what was looked at. -/
theorem fold_inv (m : Nat) (xs : List Int) (k : Int) (hk : m ≤ ge k xs) (hmax : ∀ y, m ≤ ge y xs → y ≤ k) : ∀ (ys : List Int) (a : Int × Bool), (a.2 = true → a.1 ≤ k) → (k ∈ ys ∨ (a.2 = true ∧ a.1 = k)) → ((ys.foldl (stepP m xs) a).1 = k)
  | [], a, h1, h2 => by
    rcases h2 with h | h
    · simp at h
    · exact h.2
  | y :: ys, a, h1, h2 => by
    rw [List.foldl_cons]
    by_cases hc : m ≤ ge y xs ∧ (a.2 = false ∨ a.1 < y)
    · have e : stepP m xs a y = (y, true) := if_pos hc
      rw [e]
      refine fold_inv m xs k hk hmax ys _ (fun _ => hmax y hc.1) ?_
      rcases h2 with h | h
      · rcases List.mem_cons.1 h with rfl | h
        · exact .inr ⟨rfl, rfl⟩
        · exact .inl h
      · rcases hc.2 with h' | h'
        · rw [h.1] at h'; cases h'
        · have := hmax y hc.1; omega
    · have e : stepP m xs a y = a := if_neg hc
      rw [e]
      refine fold_inv m xs k hk hmax ys a h1 ?_
      rcases h2 with h | h
      · rcases List.mem_cons.1 h with rfl | h
        · right
          cases ha : a.2 with
          | false => exact absurd ⟨hk, .inl ha⟩ hc
          | true =>
            refine ⟨rfl, ?_⟩
            have := h1 ha
            rcases Int.lt_or_le a.1 k with h' | h'
            · exact absurd ⟨hk, .inr h'⟩ hc
            · omega
        · exact .inl h
      · exact .inr h

theorem bst_pnt {n : Nat} {xs : List Int} (hf : fl n = true) (hn : xs.length = n) : (bst (maj n).toNat xs xs).1 = pnt n xs :=
  fold_inv _ xs _ (pnt_ge hf hn) (fun _ hy => pnt_max hf hn hy) xs _ (by simp) (.inl (pnt_mem hf hn))

/-- One number rises: Point never falls. -/
theorem ge_set {xs : List Int} {i : Nat} {x : Int} (h : ∀ y, xs[i]? = some y → y ≤ x) (k : Int) : ge k xs ≤ ge k (xs.set i x) := by
  induction xs generalizing i with
  | nil => simp [ge]
  | cons a xs ih =>
    cases i with
    | zero =>
      have ha := h a rfl
      simp only [List.set_cons_zero, ge, List.countP_cons]
      by_cases h1 : k ≤ a
      · rw [if_pos (by simpa using h1), if_pos (by simp; omega)]; omega
      · rw [if_neg (by simpa using h1)]; omega
    | succ i =>
      have := ih (i := i) (fun y hy => h y (by simpa using hy))
      simp only [List.set_cons_succ, ge, List.countP_cons] at *
      omega
theorem pnt_rises {n : Nat} {xs : List Int} {i : Nat} {x : Int} (hf : fl n = true) (hn : xs.length = n) (h : ∀ y, xs[i]? = some y → y ≤ x) : pnt n xs ≤ pnt n (xs.set i x) :=
  pnt_max hf (by simpa using hn) (Nat.le_trans (pnt_ge hf hn) (ge_set h _))
end Go.Proofs.Ytmpbdncgilahkaa
