import Derived.Test.YtphcfkfdkaphbaaBackoff
namespace Go.Proofs.Ytphcfkfdkaphbaa
open Go.RowKit
set_option linter.unusedVariables false

/-- A backoff's numbers. -/
def bk (b m n : Int) : List Value := [.int .i64 b, .int .i64 m, .int .i64 n]
def ptr (P : Nat) : Value := .pointer (some ⟨P, 0, none⟩)

theorem All.blkTurn {g : Nat} {vs vs' : List Value} {t : TypeId} {cs : List Comp} {w w' : World} (h : All (blkC g vs t :: cs) w) (hf : Fr [g] w w') (hh : w'.heap[g]? = some (.cells vs'.toArray t (0, 0))) : All (blkC g vs' t :: cs) w' := by
  refine h.turn hf (blkC_good _ _ _) hh (fun k hk => Or.inl hk) (fun k hk => ?_)
  have : k = g := by simpa [blkC] using hk
  subst this
  exact (Array.getElem?_eq_some_iff.1 hh).1

theorem Next_c {w : World} {P : Nat} {b m n : Int} {cs : List Comp} (h : All (blkC P (bk b m n) 120 :: cs) w) (h1 : 1 ≤ n) (h2 : n ≤ m) (h3 : m ≤ 1024) : Calls Try.prog 33 #[ptr P] w fun e w' => e = .returned (.int .i64 n) ∧ All (blkC P (bk b m (min (2 * n) m)) 120 :: cs) w' :=
  (Next_any (show BoB w P b m n from h.1.2.1) h1 h2 h3).mono fun e w' ⟨he, hb, hf⟩ => ⟨he, h.blkTurn hf hb⟩

theorem Now_c {w : World} {P : Nat} {b m n : Int} {cs : List Comp} (h : All (blkC P (bk b m n) 120 :: cs) w) : Calls Try.prog 35 #[ptr P] w fun e w' => e = .returned (.int .i64 n) ∧ w' = w :=
  Now_any (show BoB w P b m n from h.1.2.1)

theorem Reset_c {w : World} {P : Nat} {b m n : Int} {cs : List Comp} (h : All (blkC P (bk b m n) 120 :: cs) w) : Calls Try.prog 36 #[ptr P] w fun e w' => e = .returned (.tuple #[]) ∧ All (blkC P (bk b m b) 120 :: cs) w' :=
  (Reset_any (show BoB w P b m n from h.1.2.1)).mono fun e w' ⟨he, hb, hf⟩ => ⟨he, h.blkTurn hf hb⟩

theorem Clone_c {w : World} {P : Nat} {b m n : Int} {cs : List Comp} (h : All (blkC P (bk b m n) 120 :: cs) w) : Calls Try.prog 37 #[ptr P] w fun e w' => ∃ P', e = .returned (ptr P') ∧ All (blkC P' (bk b m n) 120 :: blkC P (bk b m n) 120 :: cs) w' := by
  have hb : BoB w P b m n := h.1.2.1
  have c0 := hb.c0
  have c1 := hb.c1
  have c2 := hb.c2
  have H := hid (h.addBlk (bk b m n) 120)
  clear h hb
  unfold ptr
  go_enter Try.func37, Try.ntmps37
  go_wp2
  go_ret
  exact ⟨_, rfl, H.out⟩

/-- The document's backoff. -/
theorem refNext_c {w : World} {P : Nat} {b m n : Int} {cs : List Comp} (h : All (blkC P (bk b m n) 85 :: cs) w) (h1 : 1 ≤ n) (h2 : n ≤ m) (h3 : m ≤ 1024) : Calls Try.prog 34 #[ptr P] w fun e w' => e = .returned (.int .i64 n) ∧ All (blkC P (bk b m (min (2 * n) m)) 85 :: cs) w' := by
  have hb : w.heap[P]? = some (.cells (bk b m n).toArray 85 (0, 0)) := h.1.2.1
  have c1 : w.cell? ⟨P, 1, none⟩ = some (.int .i64 m) := by rw [cell_at hb]; rfl
  have c2 : w.cell? ⟨P, 2, none⟩ = some (.int .i64 n) := by rw [cell_at hb]; rfl
  have f2 : w.frozen? ⟨P, 2, none⟩ = false := free_at hb 2
  have H := hid (h.setBlk 2 (.int .i64 (2 * n)))
  have hw : IntKind.i64.wrap (2 * n) = 2 * n := by simp [IntKind.wrap, IntKind.bits, IntKind.signed]; omega
  clear h hb
  unfold ptr
  by_cases hm : m < 2 * n
  · go_enter Try.func34, Try.ntmps34
    go_wp2
    generalize w.setCell ⟨P, 2, none⟩ (.int .i64 (2 * n)) = w1 at *
    have hb1 : w1.heap[P]? = some (.cells (bk b m (2 * n)).toArray 85 (0, 0)) := H.out.1.2.1
    have d1 : w1.cell? ⟨P, 1, none⟩ = some (.int .i64 m) := by rw [cell_at hb1]; rfl
    have d2 : w1.cell? ⟨P, 2, none⟩ = some (.int .i64 (2 * n)) := by rw [cell_at hb1]; rfl
    have g2 : w1.frozen? ⟨P, 2, none⟩ = false := free_at hb1 2
    clear c1 c2 f2 hb1 hw
    go_region
    all_goals have H2 := hid (H.out.drew.setBlk 2 (.int .i64 m))
    all_goals go_wp2
    all_goals go_ret
    all_goals exact ⟨rfl, by rw [Int.min_eq_right (by omega)]; exact H2.out⟩
  · go_enter Try.func34, Try.ntmps34
    go_wp2
    generalize w.setCell ⟨P, 2, none⟩ (.int .i64 (2 * n)) = w1 at *
    have hb1 : w1.heap[P]? = some (.cells (bk b m (2 * n)).toArray 85 (0, 0)) := H.out.1.2.1
    have d1 : w1.cell? ⟨P, 1, none⟩ = some (.int .i64 m) := by rw [cell_at hb1]; rfl
    have d2 : w1.cell? ⟨P, 2, none⟩ = some (.int .i64 (2 * n)) := by rw [cell_at hb1]; rfl
    have g2 : w1.frozen? ⟨P, 2, none⟩ = false := free_at hb1 2
    clear c1 c2 f2 hb1 hw
    go_region
    all_goals go_wp2
    all_goals go_ret
    all_goals exact ⟨rfl, by rw [Int.min_eq_left (by omega)]; exact H.out.drew⟩

theorem refClone_c {w : World} {P : Nat} {b m n : Int} {cs : List Comp} (h : All (blkC P (bk b m n) 85 :: cs) w) : Calls Try.prog 38 #[ptr P] w fun e w' => ∃ P', e = .returned (ptr P') ∧ All (blkC P' (bk b m n) 85 :: blkC P (bk b m n) 85 :: cs) w' := by
  have hb : w.heap[P]? = some (.cells (bk b m n).toArray 85 (0, 0)) := h.1.2.1
  have c0 : w.cell? ⟨P, 0, none⟩ = some (.int .i64 b) := by rw [cell_at hb]; rfl
  have c1 : w.cell? ⟨P, 1, none⟩ = some (.int .i64 m) := by rw [cell_at hb]; rfl
  have c2 : w.cell? ⟨P, 2, none⟩ = some (.int .i64 n) := by rw [cell_at hb]; rfl
  have H := hid (h.drew.addBlk (bk b m n) 85)
  clear h hb
  unfold ptr
  go_enter Try.func38, Try.ntmps38
  go_wp2
  go_region
  all_goals go_wp2
  all_goals go_ret
  all_goals exact ⟨_, rfl, H.out⟩

theorem refNew_ok {w : World} {b m : Int} {cs : List Comp} (h : All cs w) (h1 : 1 ≤ b) (h2 : b ≤ m) (h3 : m ≤ 1024) :
    Calls Try.prog 32 #[.int .i64 b, .int .i64 m] w fun e w' => ∃ P, e = .returned (.tuple #[ptr P, .int .i64 0]) ∧ All (blkC P (bk b m b) 85 :: cs) w' := by
  have h4 : b ≤ 1024 := by omega
  have H := hid (h.addBlk (bk b m b) 85)
  clear h
  unfold ptr
  go_enter Try.func32, Try.ntmps32
  go_wp2
  go_ret2
  exact ⟨_, rfl, H.out⟩

theorem New_ok {w : World} {b m : Int} {cs : List Comp} (h : All cs w) (h1 : 1 ≤ b) (h2 : b ≤ m) (h3 : m ≤ 1024) :
    Calls Try.prog 31 #[.int .i64 b, .int .i64 m] w fun e w' => ∃ P, e = .returned (.tuple #[ptr P, .int .i64 0]) ∧ All (blkC P (bk b m b) 120 :: cs) w' := by
  have h4 : b ≤ 1024 := by omega
  have H := hid (h.addBlk (bk b m b) 120)
  clear h
  unfold ptr
  go_enter Try.func31, Try.ntmps31
  go_wp2_with fail
  refine (mayWait_yes h1 h4).mono ?_
  rintro e w1 ⟨rfl, rfl⟩
  go_wp2
  go_ret2
  exact ⟨_, rfl, H.out⟩

theorem refNew_bad {w : World} {b m : Int} (h : b < 1 ∨ m < b ∨ 1024 < m) :
    Calls Try.prog 32 #[.int .i64 b, .int .i64 m] w fun e w' => e = .returned (.tuple #[.pointer none, .int .i64 (errB b m)]) ∧ w' = w := by
  by_cases hb : b < 1
  · clear h
    go_enter Try.func32, Try.ntmps32
    go_wp2
    go_ret2
    exact ⟨by rw [errB_ticks (by omega)]; rfl, rfl⟩
  · by_cases hb2 : 1024 < b
    · clear h
      go_enter Try.func32, Try.ntmps32
      go_wp2
      go_ret2
      exact ⟨by rw [errB_ticks (by omega)]; rfl, rfl⟩
    · by_cases hm : 1024 < m
      · clear h
        go_enter Try.func32, Try.ntmps32
        go_wp2
        go_ret2
        exact ⟨by rw [errB_ticks (by omega)]; rfl, rfl⟩
      · have hmb : m < b := by omega
        clear h
        go_enter Try.func32, Try.ntmps32
        go_wp2
        go_ret2
        exact ⟨by rw [errB_cap (by omega)]; rfl, rfl⟩

theorem among_any {w : World} (i : Int) (n : Nat) (h1 : 1 ≤ n) (h2 : n ≤ 4611686018427387904) : Calls Try.prog 15 #[.int .i64 i, .int .i64 (n : Int)] w fun e w' => ∃ k : Nat, k < n ∧ e = .returned (.int .i64 (k : Int)) ∧ w' = w := by
  have hlt : i.tmod n < n := Int.tmod_lt_of_pos _ (by omega)
  have hgt : -(n : Int) < i.tmod n := by
    have := Int.lt_tmod_of_pos i (b := (n : Int)) (by omega)
    omega
  by_cases h0 : i.tmod n < 0
  · have hw : wrap64 (i.tmod n + n) = i.tmod n + n := by unfold wrap64; omega
    go_enter Try.func15, Try.ntmps15
    go_wp2
    go_ret
    exact ⟨(i.tmod n + n).toNat, by omega, by rw [Int.toNat_of_nonneg (by omega)]; rfl, rfl⟩
  · go_enter Try.func15, Try.ntmps15
    go_wp2
    go_ret
    exact ⟨(i.tmod n).toNat, by omega, by rw [Int.toNat_of_nonneg (by omega)]; rfl, rfl⟩
end Go.Proofs.Ytphcfkfdkaphbaa
